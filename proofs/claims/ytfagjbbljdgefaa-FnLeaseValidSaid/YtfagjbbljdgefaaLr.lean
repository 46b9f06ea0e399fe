/- A lease drawn for validity: two rows and three draws in one statement, in whatever order. -/
import Derived.Test.YtfagjbbljdgefaaLq
namespace Go.Proofs.Ytfagjbbljdgefaa
open Go.RowKit

/-- A condition that says more. -/
theorem wpAnyH_weaken {P : Program} {ops : Array Oper} {Q : Exit → Act → World → Prop} {md : Region.Mode} {S S' : World → Prop} (h : ∀ w, S' w → S w) :
    ∀ (fuel : Nat) (listed : Array Bool) (a : Act) (w : World), wpAnyH P md ops Q S' fuel listed a w → wpAnyH P md ops Q S fuel listed a w
  | 0, _, _, _, k => k
  | fuel + 1, _, _, _, k => ⟨k.1, fun i hi => wpOp_mono (fun a' w' h' => ⟨h _ h'.1, wpAnyH_weaken h fuel _ a' w' h'.2⟩) (k.2 i hi)⟩
def tbA (y : Int) : Int := if y = 0 then 0 else if y = 1 then 5 else 1000
def tbB (y : Int) : Int := if y = 0 then 0 else if y = 1 then 5 else if y = 2 then 999 else 1000
def RowA (w : World) (b : Nat) : Prop := ∃ T, w.heap[b]? = some (.cells #[.int .i64 0, .int .i64 5, .int .i64 1000] T (0, 0))
def RowB (w : World) (b : Nat) : Prop := ∃ T, w.heap[b]? = some (.cells #[.int .i64 0, .int .i64 5, .int .i64 999, .int .i64 1000] T (0, 0))
theorem RowA.at {w : World} {b : Nat} (h : RowA w b) {y : Int} (y0 : 0 ≤ y) (y1 : y < 3) : w.cell? ⟨b, y.toNat, none⟩ = some (.int .i64 (tbA y)) := by
  obtain ⟨T, h⟩ := h
  rw [cell_of_row w b _ _ _ _ h]
  have : y = 0 ∨ y = 1 ∨ y = 2 := by omega
  rcases this with rfl | rfl | rfl <;> rfl
theorem RowB.at {w : World} {b : Nat} (h : RowB w b) {y : Int} (y0 : 0 ≤ y) (y1 : y < 4) : w.cell? ⟨b, y.toNat, none⟩ = some (.int .i64 (tbB y)) := by
  obtain ⟨T, h⟩ := h
  rw [cell_of_row w b _ _ _ _ h]
  have : y = 0 ∨ y = 1 ∨ y = 2 ∨ y = 3 := by omega
  rcases this with rfl | rfl | rfl | rfl <;> rfl
/-- What stays while the lease is drawn: the place for the result, the rows. -/
def SV (w : World) (ra rb : Option Nat) (wr : World) : Prop := (∃ p a v, AF3 wr w.heap.size p a v) ∧ (∀ b, ra = some b → RowA wr b ∧ w.heap.size + 1 < b) ∧ (∀ b, rb = some b → RowB wr b ∧ w.heap.size + 1 < b)
def V5 (w : World) (q : Nat) (ra rb : Option Nat) (wr : World) : Prop := SV w ra rb wr ∧ RdX wr (w.heap.size + 1) q ∧ Below w.heap.size w wr
section
variable {w wr wr' : World} {q b : Nat} {ra rb : Option Nat}
theorem RowA.lt (h : RowA w b) : b < w.heap.size := by obtain ⟨T, h⟩ := h; exact (Array.getElem?_eq_some_iff.1 h).1
theorem RowB.lt (h : RowB w b) : b < w.heap.size := by obtain ⟨T, h⟩ := h; exact (Array.getElem?_eq_some_iff.1 h).1
theorem RowA.kept (h : RowA w b) (e : wr.heap[b]? = w.heap[b]?) : RowA wr b := by obtain ⟨T, h⟩ := h; exact ⟨T, e.trans h⟩
theorem RowB.kept (h : RowB w b) (e : wr.heap[b]? = w.heap[b]?) : RowB wr b := by obtain ⟨T, h⟩ := h; exact ⟨T, e.trans h⟩
abbrev V5.S (_ : V5 w q ra rb wr) : World → Prop := SV w ra rb
theorem V5.next (h : V5 w q ra rb wr) {q' : Nat} (hr : RdX wr' (w.heap.size + 1) q') (hg : wr.grownBy wr' (some (w.heap.size + 1))) : V5 w q' ra rb wr' := by
  obtain ⟨⟨⟨p, a, v, hA⟩, h1, h2⟩, _, hb⟩ := h
  refine ⟨⟨⟨p, a, v, hA.grown hg (by omega)⟩, fun b e => ?_, fun b e => ?_⟩, hr, hb.grown hg hb.size (fun k hk => by injection hk with hk; omega)⟩
  · obtain ⟨x, y⟩ := h1 b e
    exact ⟨x.kept (hg.block b x.lt (by simp; omega)), y⟩
  · obtain ⟨x, y⟩ := h2 b e
    exact ⟨x.kept (hg.block b x.lt (by simp; omega)), y⟩
theorem V5.alloc (h : V5 w q ra rb wr) (o : Obj) : V5 w q ra rb (wr.alloc o) := by
  obtain ⟨⟨⟨p, a, v, hA⟩, h1, h2⟩, hr, hb⟩ := h
  refine ⟨⟨⟨p, a, v, hA.alloc o⟩, fun b e => ?_, fun b e => ?_⟩, hr.below ((Below.refl _ wr).alloc (Nat.le_refl _) o), hb.alloc hb.size o⟩
  · obtain ⟨x, y⟩ := h1 b e
    exact ⟨x.kept (Below.heap_alloc wr o b x.lt), y⟩
  · obtain ⟨x, y⟩ := h2 b e
    exact ⟨x.kept (Below.heap_alloc wr o b x.lt), y⟩
theorem V5.newA (h : V5 w q none rb wr) (T : Nat) : V5 w q (some wr.heap.size) rb (wr.alloc (.cells #[.int .i64 0, .int .i64 5, .int .i64 1000] T)) := by
  obtain ⟨⟨k1, k2, k3⟩, k4, k5⟩ := h.alloc (.cells #[.int .i64 0, .int .i64 5, .int .i64 1000] T)
  refine ⟨⟨k1, fun b e => ?_, k3⟩, k4, k5⟩
  cases e
  exact ⟨⟨T, heap_alloc_new wr _⟩, h.2.1.lt⟩
theorem V5.newB (h : V5 w q ra none wr) (T : Nat) : V5 w q ra (some wr.heap.size) (wr.alloc (.cells #[.int .i64 0, .int .i64 5, .int .i64 999, .int .i64 1000] T)) := by
  obtain ⟨⟨k1, k2, k3⟩, k4, k5⟩ := h.alloc (.cells #[.int .i64 0, .int .i64 5, .int .i64 999, .int .i64 1000] T)
  refine ⟨⟨k1, k2, fun b e => ?_⟩, k4, k5⟩
  cases e
  exact ⟨⟨T, heap_alloc_new wr _⟩, h.2.1.lt⟩
theorem V5.drew (h : V5 w q ra rb wr) : V5 w q ra rb wr.drew := by
  obtain ⟨⟨⟨p, a, v, hA⟩, h1, h2⟩, hr, hb⟩ := h
  have bb : Below wr.heap.size wr wr.drew := (Below.refl _ _).drew
  exact ⟨⟨⟨p, a, v, hA.below bb⟩, fun b e => ⟨(h1 b e).1.kept rfl, (h1 b e).2⟩, fun b e => ⟨(h2 b e).1.kept rfl, (h2 b e).2⟩⟩, hr.below bb, hb.drew⟩
theorem SV.lessA {x : Option Nat} (h : SV w x rb wr) : SV w none rb wr := ⟨h.1, fun b e => (by cases e), h.2.2⟩
theorem SV.lessB {x : Option Nat} (h : SV w ra x wr) : SV w ra none wr := ⟨h.1, h.2.1, fun b e => (by cases e)⟩
theorem V5.fin (h : V5 w q ra rb wr) (p a v : Int) : AF3 (set3 wr w.heap.size p a v) w.heap.size p a v ∧ Below w.heap.size w (set3 wr w.heap.size p a v) ∧ SV w ra rb (set3 wr w.heap.size p a v) := by
  obtain ⟨⟨⟨p', a', v', hA⟩, h1, h2⟩, hr, hb⟩ := h
  have e : ∀ k, w.heap.size ≠ k → (set3 wr w.heap.size p a v).heap[k]? = wr.heap[k]? := fun k hk =>
    ((Below.heap_setCell _ ⟨w.heap.size, 2, none⟩ _ k (by simpa using Ne.symm hk)).trans (Below.heap_setCell _ ⟨w.heap.size, 1, none⟩ _ k (by simpa using Ne.symm hk))).trans (Below.heap_setCell _ ⟨w.heap.size, 0, none⟩ _ k (by simpa using Ne.symm hk))
  refine ⟨hA.set3 p a v, set3_below hb (Nat.le_refl _) p a v, ⟨p, a, v, hA.set3 p a v⟩, fun b x => ?_, fun b x => ?_⟩
  · obtain ⟨y, z⟩ := h1 b x
    exact ⟨y.kept (e b (by omega)), z⟩
  · obtain ⟨y, z⟩ := h2 b x
    exact ⟨y.kept (e b (by omega)), z⟩
end

def DrewLV (w : World) (e : Ending) (w' : World) : Prop := ∃ h s n : Int, e = .returned (AVal h s n) ∧ Below w.heap.size w w'
theorem res_drLV {W : World} {b : Nat} {p a v : Int} (tmps : Array Value) (h2 : tmps.getD 2 undef = .pointer (some ⟨b, 0, none⟩)) (h : AF3 W b p a v) :
    (results Try.f26 tmps).run Try.prog W = .ok (AVal p a v) W := by
  obtain ⟨q0, q1, q2⟩ := cells3 h.ab
  rw [results_one rfl, h2]
  go_simp
  rfl
theorem startV {w w1 : World} (hr : RdX w1 (w.heap.size + 1) 0) (b1 : Below (w.alloc (.cells #[.int .i64 0, .int .i64 0, .int .i64 0] 24)).heap.size (w.alloc (.cells #[.int .i64 0, .int .i64 0, .int .i64 0] 24)) w1) : V5 w 0 none none w1 :=
  ⟨⟨(start0 b1).1, fun b e => (by cases e), fun b e => (by cases e)⟩, hr, (start0 b1).2⟩

set_option maxRecDepth 100000 in
set_option maxHeartbeats 6400000 in
theorem drawLV_any (A : Option Addr) (c : Nat) (l : List Int) (w : World) (ha : BL w A l) (hc : l.length ≤ c) (hm : l.length ≤ maxLen) (hmc : c ≤ maxLen) :
    Calls Try.prog 26 #[.slice A l.length c] w (DrewLV w) := by
  have hA := Lib.hid (ha.below ((Below.refl _ w).alloc (Nat.le_refl _) (.cells #[.int .i64 0, .int .i64 0, .int .i64 0] 24)))
  clear ha
  go_enter Try.func26, Try.ntmps26
  go_wp2_with fail
  refine (l6Open_any _ _ _ _ hA.out hc hm hmc).mono ?_
  rintro e w1 ⟨rfl, hr1, b1⟩
  rw [World.size_alloc] at hr1
  have D := Lib.hid (startV hr1 b1)
  clear b1 hr1 hA
  go_wp2_with fail
  have D := Lib.hid D.out.drew
  refine wp_region_noPanic ?_
  refine wp_region_held_drew (S := SV w none none) (by kernel_rfl) D.out.1 (fun hH0 => ?_)
  generalize w1.drew = wd at D hH0 ⊢
  refine wpAnyH_take (i := 0) (v := ?_) rfl (by kernel_rfl) (by kernel_rfl) (by kernel_rfl) (fun _ _ _ h => h) (Or.inl ⟨by kernel_rfl, ?_⟩) (by assumption) ?_
  rotate_left
  · (intro W hSw; go_simp; try with_reducible rfl)
  try simp only [Act.put, List.getElem_toArray, List.getElem_cons_zero, List.setIfInBounds_toArray, List.set_cons_zero, List.set_cons_succ]
  refine wpAnyH_take (i := 4) (v := ?_) rfl (by kernel_rfl) (by kernel_rfl) (by kernel_rfl) (fun _ _ _ h => h) (Or.inl ⟨by kernel_rfl, ?_⟩) (by assumption) ?_
  rotate_left
  · (intro W hSw; go_simp; try with_reducible rfl)
  try simp only [Act.put, List.getElem_toArray, List.getElem_cons_succ, List.getElem_cons_zero, List.setIfInBounds_toArray, List.set_cons_zero, List.set_cons_succ]
  refine wpAnyH_take (i := 9) (v := ?_) rfl (by kernel_rfl) (by kernel_rfl) (by kernel_rfl) (fun _ _ _ h => h) (Or.inl ⟨by kernel_rfl, ?_⟩) (by assumption) ?_
  rotate_left
  · (intro W hSw; go_simp; try with_reducible rfl)
  try simp only [Act.put, List.getElem_toArray, List.getElem_cons_succ, List.getElem_cons_zero, List.setIfInBounds_toArray, List.set_cons_zero, List.set_cons_succ]
  refine wpAnyH_ready (rs := [1, 3, 8]) (by kernel_rfl) (by simp) ?_
  refine AllReadyH.cons rfl (fun K hK => ?_) (AllReadyH.cons rfl (fun K hK => ?_) (AllReadyH.cons rfl (fun K hK => ?_) (AllReadyH.nil)))
  · go_simp
    refine (pickX _ _ 9 _ D.out.2.1 (by omega) (by omega) (by omega)).mono ?_
    rintro e w3 ⟨x, x0, x1, rfl, hr, hg⟩
    have D := Lib.hid (D.out.next hr hg)
    clear hr hg
    have wx : IntKind.i64.wrap (x - 1) = x - 1 := IntWalk.i64_in _ (by omega)
    refine hK.out _ _ ?_ (fun hH => ?_)
    · exact D.out.1
    clear hK K
    try simp only [Act.put, List.getElem_toArray, List.getElem_cons_succ, List.getElem_cons_zero, List.setIfInBounds_toArray, List.set_cons_zero, List.set_cons_succ]
    refine wpAnyH_take (i := 2) (v := ?_) rfl (by kernel_rfl) (by kernel_rfl) (by kernel_rfl) (fun _ _ _ h => h) (Or.inl ⟨by kernel_rfl, ?_⟩) (by assumption) ?_
    rotate_left
    · (intro W hSw; go_simp; try with_reducible rfl)
    try simp only [Act.put, List.getElem_toArray, List.getElem_cons_succ, List.getElem_cons_zero, List.setIfInBounds_toArray, List.set_cons_zero, List.set_cons_succ]
    refine wpAnyH_ready (rs := [3, 5, 8]) (by kernel_rfl) (by simp) ?_
    refine AllReadyH.cons rfl (fun K hK => ?_) (AllReadyH.cons rfl (fun K hK => ?_) (AllReadyH.cons rfl (fun K hK => ?_) (AllReadyH.nil)))
    · have D := Lib.hid (D.out.newA 3)
      go_simp
      refine hK.out _ _ ?_ (fun hH => ?_)
      · exact D.out.1.lessA
      clear hK K
      try simp only [Act.put, List.getElem_toArray, List.getElem_cons_succ, List.getElem_cons_zero, List.setIfInBounds_toArray, List.set_cons_zero, List.set_cons_succ]
      refine wpAnyH_weaken (S' := D.out.S) (fun _ h => SV.lessA h) _ _ _ _ ?_
      have hH := D.out.1
      refine wpAnyH_ready (rs := [5, 8]) (by kernel_rfl) (by simp) ?_
      refine AllReadyH.cons rfl (fun K hK => ?_) (AllReadyH.cons rfl (fun K hK => ?_) (AllReadyH.nil))
      · go_simp
        refine (pickX _ _ 3 _ D.out.2.1 (by omega) (by omega) (by omega)).mono ?_
        rintro e w3 ⟨y, y0, y1, rfl, hr, hg⟩
        have D := Lib.hid (D.out.next hr hg)
        clear hr hg
        refine hK.out _ _ ?_ (fun hH => ?_)
        · exact D.out.1
        clear hK K
        try simp only [Act.put, List.getElem_toArray, List.getElem_cons_succ, List.getElem_cons_zero, List.setIfInBounds_toArray, List.set_cons_zero, List.set_cons_succ]
        refine wpAnyH_take (i := 6) (v := ?_) rfl (by kernel_rfl) (by kernel_rfl) (by kernel_rfl) (fun _ _ _ h => h) (Or.inl ⟨by kernel_rfl, ?_⟩) (by assumption) ?_
        rotate_left
        · (intro W hSw; go_simp; try with_reducible rfl)
        try simp only [Act.put, List.getElem_toArray, List.getElem_cons_succ, List.getElem_cons_zero, List.setIfInBounds_toArray, List.set_cons_zero, List.set_cons_succ]
        refine wpAnyH_take (i := 7) (v := ?_) rfl (by kernel_rfl) (by kernel_rfl) (by kernel_rfl) (fun _ _ _ h => h) (Or.inl ⟨by kernel_rfl, ?_⟩) (by assumption) ?_
        rotate_left
        · (intro W hSw; have u0 := (hSw.2.1 _ rfl).1.at y0 y1; (try simp only [World.size_alloc] at u0); go_simp; try with_reducible rfl)
        try simp only [Act.put, List.getElem_toArray, List.getElem_cons_succ, List.getElem_cons_zero, List.setIfInBounds_toArray, List.set_cons_zero, List.set_cons_succ]
        refine wpAnyH_ready (rs := [8, 10]) (by kernel_rfl) (by simp) ?_
        refine AllReadyH.cons rfl (fun K hK => ?_) (AllReadyH.cons rfl (fun K hK => ?_) (AllReadyH.nil))
        · have D := Lib.hid (D.out.newB 3)
          go_simp
          refine hK.out _ _ ?_ (fun hH => ?_)
          · exact D.out.1.lessB
          clear hK K
          try simp only [Act.put, List.getElem_toArray, List.getElem_cons_succ, List.getElem_cons_zero, List.setIfInBounds_toArray, List.set_cons_zero, List.set_cons_succ]
          refine wpAnyH_weaken (S' := D.out.S) (fun _ h => SV.lessB h) _ _ _ _ ?_
          have hH := D.out.1
          refine wpAnyH_ready (rs := [10]) (by kernel_rfl) (by simp) ?_
          refine AllReadyH.cons rfl (fun K hK => ?_) (AllReadyH.nil)
          · go_simp
            refine (pickX _ _ 4 _ D.out.2.1 (by omega) (by omega) (by omega)).mono ?_
            rintro e w3 ⟨z, z0, z1, rfl, hr, hg⟩
            have D := Lib.hid (D.out.next hr hg)
            clear hr hg
            refine hK.out _ _ ?_ (fun hH => ?_)
            · exact D.out.1
            clear hK K
            try simp only [Act.put, List.getElem_toArray, List.getElem_cons_succ, List.getElem_cons_zero, List.setIfInBounds_toArray, List.set_cons_zero, List.set_cons_succ]
            refine wpAnyH_take (i := 11) (v := ?_) rfl (by kernel_rfl) (by kernel_rfl) (by kernel_rfl) (fun _ _ _ h => h) (Or.inl ⟨by kernel_rfl, ?_⟩) (by assumption) ?_
            rotate_left
            · (intro W hSw; go_simp; try with_reducible rfl)
            try simp only [Act.put, List.getElem_toArray, List.getElem_cons_succ, List.getElem_cons_zero, List.setIfInBounds_toArray, List.set_cons_zero, List.set_cons_succ]
            refine wpAnyH_take (i := 12) (v := ?_) rfl (by kernel_rfl) (by kernel_rfl) (by kernel_rfl) (fun _ _ _ h => h) (Or.inl ⟨by kernel_rfl, ?_⟩) (by assumption) ?_
            rotate_left
            · (intro W hSw; have u0 := (hSw.2.2 _ rfl).1.at z0 z1; (try simp only [World.size_alloc] at u0); go_simp; try with_reducible rfl)
            try simp only [Act.put, List.getElem_toArray, List.getElem_cons_succ, List.getElem_cons_zero, List.setIfInBounds_toArray, List.set_cons_zero, List.set_cons_succ]
            refine wpAnyH_take (i := 13) (v := ?_) rfl (by kernel_rfl) (by kernel_rfl) (by kernel_rfl) (fun _ _ _ h => h) (Or.inl ⟨by kernel_rfl, ?_⟩) (by assumption) ?_
            rotate_left
            · (intro W hSw; go_simp; try with_reducible rfl)
            try simp only [Act.put, List.getElem_toArray, List.getElem_cons_succ, List.getElem_cons_zero, List.setIfInBounds_toArray, List.set_cons_zero, List.set_cons_succ]
            refine wpAnyH_ready (rs := [14]) (by kernel_rfl) (by simp) ?_
            refine AllReadyH.cons rfl (fun K hK => ?_) AllReadyH.nil
            obtain ⟨p1, a1, v1, hz⟩ := D.out.1.1
            obtain ⟨k0, k1, k2⟩ := cells3 hz.ab
            have f0 := hz.fz 0
            have f1 := hz.fz 1
            have f2 := hz.fz 2
            go_simp
            refine hK.out _ _ ?_ (fun hH => ?_)
            · exact (D.out.fin (x - 1) (tbA y) (tbB z)).2.2
            clear hK K
            try simp only [Act.put, List.getElem_toArray, List.getElem_cons_succ, List.getElem_cons_zero, List.setIfInBounds_toArray, List.set_cons_zero, List.set_cons_succ]
            refine wpAnyH_done (by kernel_rfl) ?_ _
            refine NoPanic.normal ?_
            go_wp2
            refine bodyPost_ret (res_drLV _ rfl (D.out.fin (x - 1) (tbA y) (tbB z)).1) rfl ?_
            exact ⟨x - 1, tbA y, tbB z, rfl, (D.out.fin (x - 1) (tbA y) (tbB z)).2.1⟩
        · go_simp
          refine (pickX _ _ 4 _ D.out.2.1 (by omega) (by omega) (by omega)).mono ?_
          rintro e w3 ⟨z, z0, z1, rfl, hr, hg⟩
          have D := Lib.hid (D.out.next hr hg)
          clear hr hg
          refine hK.out _ _ ?_ (fun hH => ?_)
          · exact D.out.1
          clear hK K
          try simp only [Act.put, List.getElem_toArray, List.getElem_cons_succ, List.getElem_cons_zero, List.setIfInBounds_toArray, List.set_cons_zero, List.set_cons_succ]
          refine wpAnyH_ready (rs := [8]) (by kernel_rfl) (by simp) ?_
          refine AllReadyH.cons rfl (fun K hK => ?_) (AllReadyH.nil)
          · have D := Lib.hid (D.out.newB 3)
            go_simp
            refine hK.out _ _ ?_ (fun hH => ?_)
            · exact D.out.1.lessB
            clear hK K
            try simp only [Act.put, List.getElem_toArray, List.getElem_cons_succ, List.getElem_cons_zero, List.setIfInBounds_toArray, List.set_cons_zero, List.set_cons_succ]
            refine wpAnyH_weaken (S' := D.out.S) (fun _ h => SV.lessB h) _ _ _ _ ?_
            have hH := D.out.1
            refine wpAnyH_take (i := 11) (v := ?_) rfl (by kernel_rfl) (by kernel_rfl) (by kernel_rfl) (fun _ _ _ h => h) (Or.inl ⟨by kernel_rfl, ?_⟩) (by assumption) ?_
            rotate_left
            · (intro W hSw; go_simp; try with_reducible rfl)
            try simp only [Act.put, List.getElem_toArray, List.getElem_cons_succ, List.getElem_cons_zero, List.setIfInBounds_toArray, List.set_cons_zero, List.set_cons_succ]
            refine wpAnyH_take (i := 12) (v := ?_) rfl (by kernel_rfl) (by kernel_rfl) (by kernel_rfl) (fun _ _ _ h => h) (Or.inl ⟨by kernel_rfl, ?_⟩) (by assumption) ?_
            rotate_left
            · (intro W hSw; have u0 := (hSw.2.2 _ rfl).1.at z0 z1; (try simp only [World.size_alloc] at u0); go_simp; try with_reducible rfl)
            try simp only [Act.put, List.getElem_toArray, List.getElem_cons_succ, List.getElem_cons_zero, List.setIfInBounds_toArray, List.set_cons_zero, List.set_cons_succ]
            refine wpAnyH_take (i := 13) (v := ?_) rfl (by kernel_rfl) (by kernel_rfl) (by kernel_rfl) (fun _ _ _ h => h) (Or.inl ⟨by kernel_rfl, ?_⟩) (by assumption) ?_
            rotate_left
            · (intro W hSw; go_simp; try with_reducible rfl)
            try simp only [Act.put, List.getElem_toArray, List.getElem_cons_succ, List.getElem_cons_zero, List.setIfInBounds_toArray, List.set_cons_zero, List.set_cons_succ]
            refine wpAnyH_ready (rs := [14]) (by kernel_rfl) (by simp) ?_
            refine AllReadyH.cons rfl (fun K hK => ?_) AllReadyH.nil
            obtain ⟨p1, a1, v1, hz⟩ := D.out.1.1
            obtain ⟨k0, k1, k2⟩ := cells3 hz.ab
            have f0 := hz.fz 0
            have f1 := hz.fz 1
            have f2 := hz.fz 2
            go_simp
            refine hK.out _ _ ?_ (fun hH => ?_)
            · exact (D.out.fin (x - 1) (tbA y) (tbB z)).2.2
            clear hK K
            try simp only [Act.put, List.getElem_toArray, List.getElem_cons_succ, List.getElem_cons_zero, List.setIfInBounds_toArray, List.set_cons_zero, List.set_cons_succ]
            refine wpAnyH_done (by kernel_rfl) ?_ _
            refine NoPanic.normal ?_
            go_wp2
            refine bodyPost_ret (res_drLV _ rfl (D.out.fin (x - 1) (tbA y) (tbB z)).1) rfl ?_
            exact ⟨x - 1, tbA y, tbB z, rfl, (D.out.fin (x - 1) (tbA y) (tbB z)).2.1⟩
      · have D := Lib.hid (D.out.newB 3)
        go_simp
        refine hK.out _ _ ?_ (fun hH => ?_)
        · exact D.out.1.lessB
        clear hK K
        try simp only [Act.put, List.getElem_toArray, List.getElem_cons_succ, List.getElem_cons_zero, List.setIfInBounds_toArray, List.set_cons_zero, List.set_cons_succ]
        refine wpAnyH_weaken (S' := D.out.S) (fun _ h => SV.lessB h) _ _ _ _ ?_
        have hH := D.out.1
        refine wpAnyH_ready (rs := [5]) (by kernel_rfl) (by simp) ?_
        refine AllReadyH.cons rfl (fun K hK => ?_) (AllReadyH.nil)
        · go_simp
          refine (pickX _ _ 3 _ D.out.2.1 (by omega) (by omega) (by omega)).mono ?_
          rintro e w3 ⟨y, y0, y1, rfl, hr, hg⟩
          have D := Lib.hid (D.out.next hr hg)
          clear hr hg
          refine hK.out _ _ ?_ (fun hH => ?_)
          · exact D.out.1
          clear hK K
          try simp only [Act.put, List.getElem_toArray, List.getElem_cons_succ, List.getElem_cons_zero, List.setIfInBounds_toArray, List.set_cons_zero, List.set_cons_succ]
          refine wpAnyH_take (i := 6) (v := ?_) rfl (by kernel_rfl) (by kernel_rfl) (by kernel_rfl) (fun _ _ _ h => h) (Or.inl ⟨by kernel_rfl, ?_⟩) (by assumption) ?_
          rotate_left
          · (intro W hSw; go_simp; try with_reducible rfl)
          try simp only [Act.put, List.getElem_toArray, List.getElem_cons_succ, List.getElem_cons_zero, List.setIfInBounds_toArray, List.set_cons_zero, List.set_cons_succ]
          refine wpAnyH_take (i := 7) (v := ?_) rfl (by kernel_rfl) (by kernel_rfl) (by kernel_rfl) (fun _ _ _ h => h) (Or.inl ⟨by kernel_rfl, ?_⟩) (by assumption) ?_
          rotate_left
          · (intro W hSw; have u0 := (hSw.2.1 _ rfl).1.at y0 y1; (try simp only [World.size_alloc] at u0); go_simp; try with_reducible rfl)
          try simp only [Act.put, List.getElem_toArray, List.getElem_cons_succ, List.getElem_cons_zero, List.setIfInBounds_toArray, List.set_cons_zero, List.set_cons_succ]
          refine wpAnyH_ready (rs := [10]) (by kernel_rfl) (by simp) ?_
          refine AllReadyH.cons rfl (fun K hK => ?_) (AllReadyH.nil)
          · go_simp
            refine (pickX _ _ 4 _ D.out.2.1 (by omega) (by omega) (by omega)).mono ?_
            rintro e w3 ⟨z, z0, z1, rfl, hr, hg⟩
            have D := Lib.hid (D.out.next hr hg)
            clear hr hg
            refine hK.out _ _ ?_ (fun hH => ?_)
            · exact D.out.1
            clear hK K
            try simp only [Act.put, List.getElem_toArray, List.getElem_cons_succ, List.getElem_cons_zero, List.setIfInBounds_toArray, List.set_cons_zero, List.set_cons_succ]
            refine wpAnyH_take (i := 11) (v := ?_) rfl (by kernel_rfl) (by kernel_rfl) (by kernel_rfl) (fun _ _ _ h => h) (Or.inl ⟨by kernel_rfl, ?_⟩) (by assumption) ?_
            rotate_left
            · (intro W hSw; go_simp; try with_reducible rfl)
            try simp only [Act.put, List.getElem_toArray, List.getElem_cons_succ, List.getElem_cons_zero, List.setIfInBounds_toArray, List.set_cons_zero, List.set_cons_succ]
            refine wpAnyH_take (i := 12) (v := ?_) rfl (by kernel_rfl) (by kernel_rfl) (by kernel_rfl) (fun _ _ _ h => h) (Or.inl ⟨by kernel_rfl, ?_⟩) (by assumption) ?_
            rotate_left
            · (intro W hSw; have u0 := (hSw.2.2 _ rfl).1.at z0 z1; (try simp only [World.size_alloc] at u0); go_simp; try with_reducible rfl)
            try simp only [Act.put, List.getElem_toArray, List.getElem_cons_succ, List.getElem_cons_zero, List.setIfInBounds_toArray, List.set_cons_zero, List.set_cons_succ]
            refine wpAnyH_take (i := 13) (v := ?_) rfl (by kernel_rfl) (by kernel_rfl) (by kernel_rfl) (fun _ _ _ h => h) (Or.inl ⟨by kernel_rfl, ?_⟩) (by assumption) ?_
            rotate_left
            · (intro W hSw; go_simp; try with_reducible rfl)
            try simp only [Act.put, List.getElem_toArray, List.getElem_cons_succ, List.getElem_cons_zero, List.setIfInBounds_toArray, List.set_cons_zero, List.set_cons_succ]
            refine wpAnyH_ready (rs := [14]) (by kernel_rfl) (by simp) ?_
            refine AllReadyH.cons rfl (fun K hK => ?_) AllReadyH.nil
            obtain ⟨p1, a1, v1, hz⟩ := D.out.1.1
            obtain ⟨k0, k1, k2⟩ := cells3 hz.ab
            have f0 := hz.fz 0
            have f1 := hz.fz 1
            have f2 := hz.fz 2
            go_simp
            refine hK.out _ _ ?_ (fun hH => ?_)
            · exact (D.out.fin (x - 1) (tbA y) (tbB z)).2.2
            clear hK K
            try simp only [Act.put, List.getElem_toArray, List.getElem_cons_succ, List.getElem_cons_zero, List.setIfInBounds_toArray, List.set_cons_zero, List.set_cons_succ]
            refine wpAnyH_done (by kernel_rfl) ?_ _
            refine NoPanic.normal ?_
            go_wp2
            refine bodyPost_ret (res_drLV _ rfl (D.out.fin (x - 1) (tbA y) (tbB z)).1) rfl ?_
            exact ⟨x - 1, tbA y, tbB z, rfl, (D.out.fin (x - 1) (tbA y) (tbB z)).2.1⟩
    · go_simp
      refine (pickX _ _ 3 _ D.out.2.1 (by omega) (by omega) (by omega)).mono ?_
      rintro e w3 ⟨y, y0, y1, rfl, hr, hg⟩
      have D := Lib.hid (D.out.next hr hg)
      clear hr hg
      refine hK.out _ _ ?_ (fun hH => ?_)
      · exact D.out.1
      clear hK K
      try simp only [Act.put, List.getElem_toArray, List.getElem_cons_succ, List.getElem_cons_zero, List.setIfInBounds_toArray, List.set_cons_zero, List.set_cons_succ]
      refine wpAnyH_ready (rs := [3, 8, 10]) (by kernel_rfl) (by simp) ?_
      refine AllReadyH.cons rfl (fun K hK => ?_) (AllReadyH.cons rfl (fun K hK => ?_) (AllReadyH.cons rfl (fun K hK => ?_) (AllReadyH.nil)))
      · have D := Lib.hid (D.out.newA 3)
        go_simp
        refine hK.out _ _ ?_ (fun hH => ?_)
        · exact D.out.1.lessA
        clear hK K
        try simp only [Act.put, List.getElem_toArray, List.getElem_cons_succ, List.getElem_cons_zero, List.setIfInBounds_toArray, List.set_cons_zero, List.set_cons_succ]
        refine wpAnyH_weaken (S' := D.out.S) (fun _ h => SV.lessA h) _ _ _ _ ?_
        have hH := D.out.1
        refine wpAnyH_take (i := 6) (v := ?_) rfl (by kernel_rfl) (by kernel_rfl) (by kernel_rfl) (fun _ _ _ h => h) (Or.inl ⟨by kernel_rfl, ?_⟩) (by assumption) ?_
        rotate_left
        · (intro W hSw; go_simp; try with_reducible rfl)
        try simp only [Act.put, List.getElem_toArray, List.getElem_cons_succ, List.getElem_cons_zero, List.setIfInBounds_toArray, List.set_cons_zero, List.set_cons_succ]
        refine wpAnyH_take (i := 7) (v := ?_) rfl (by kernel_rfl) (by kernel_rfl) (by kernel_rfl) (fun _ _ _ h => h) (Or.inl ⟨by kernel_rfl, ?_⟩) (by assumption) ?_
        rotate_left
        · (intro W hSw; have u0 := (hSw.2.1 _ rfl).1.at y0 y1; (try simp only [World.size_alloc] at u0); go_simp; try with_reducible rfl)
        try simp only [Act.put, List.getElem_toArray, List.getElem_cons_succ, List.getElem_cons_zero, List.setIfInBounds_toArray, List.set_cons_zero, List.set_cons_succ]
        refine wpAnyH_ready (rs := [8, 10]) (by kernel_rfl) (by simp) ?_
        refine AllReadyH.cons rfl (fun K hK => ?_) (AllReadyH.cons rfl (fun K hK => ?_) (AllReadyH.nil))
        · have D := Lib.hid (D.out.newB 3)
          go_simp
          refine hK.out _ _ ?_ (fun hH => ?_)
          · exact D.out.1.lessB
          clear hK K
          try simp only [Act.put, List.getElem_toArray, List.getElem_cons_succ, List.getElem_cons_zero, List.setIfInBounds_toArray, List.set_cons_zero, List.set_cons_succ]
          refine wpAnyH_weaken (S' := D.out.S) (fun _ h => SV.lessB h) _ _ _ _ ?_
          have hH := D.out.1
          refine wpAnyH_ready (rs := [10]) (by kernel_rfl) (by simp) ?_
          refine AllReadyH.cons rfl (fun K hK => ?_) (AllReadyH.nil)
          · go_simp
            refine (pickX _ _ 4 _ D.out.2.1 (by omega) (by omega) (by omega)).mono ?_
            rintro e w3 ⟨z, z0, z1, rfl, hr, hg⟩
            have D := Lib.hid (D.out.next hr hg)
            clear hr hg
            refine hK.out _ _ ?_ (fun hH => ?_)
            · exact D.out.1
            clear hK K
            try simp only [Act.put, List.getElem_toArray, List.getElem_cons_succ, List.getElem_cons_zero, List.setIfInBounds_toArray, List.set_cons_zero, List.set_cons_succ]
            refine wpAnyH_take (i := 11) (v := ?_) rfl (by kernel_rfl) (by kernel_rfl) (by kernel_rfl) (fun _ _ _ h => h) (Or.inl ⟨by kernel_rfl, ?_⟩) (by assumption) ?_
            rotate_left
            · (intro W hSw; go_simp; try with_reducible rfl)
            try simp only [Act.put, List.getElem_toArray, List.getElem_cons_succ, List.getElem_cons_zero, List.setIfInBounds_toArray, List.set_cons_zero, List.set_cons_succ]
            refine wpAnyH_take (i := 12) (v := ?_) rfl (by kernel_rfl) (by kernel_rfl) (by kernel_rfl) (fun _ _ _ h => h) (Or.inl ⟨by kernel_rfl, ?_⟩) (by assumption) ?_
            rotate_left
            · (intro W hSw; have u0 := (hSw.2.2 _ rfl).1.at z0 z1; (try simp only [World.size_alloc] at u0); go_simp; try with_reducible rfl)
            try simp only [Act.put, List.getElem_toArray, List.getElem_cons_succ, List.getElem_cons_zero, List.setIfInBounds_toArray, List.set_cons_zero, List.set_cons_succ]
            refine wpAnyH_take (i := 13) (v := ?_) rfl (by kernel_rfl) (by kernel_rfl) (by kernel_rfl) (fun _ _ _ h => h) (Or.inl ⟨by kernel_rfl, ?_⟩) (by assumption) ?_
            rotate_left
            · (intro W hSw; go_simp; try with_reducible rfl)
            try simp only [Act.put, List.getElem_toArray, List.getElem_cons_succ, List.getElem_cons_zero, List.setIfInBounds_toArray, List.set_cons_zero, List.set_cons_succ]
            refine wpAnyH_ready (rs := [14]) (by kernel_rfl) (by simp) ?_
            refine AllReadyH.cons rfl (fun K hK => ?_) AllReadyH.nil
            obtain ⟨p1, a1, v1, hz⟩ := D.out.1.1
            obtain ⟨k0, k1, k2⟩ := cells3 hz.ab
            have f0 := hz.fz 0
            have f1 := hz.fz 1
            have f2 := hz.fz 2
            go_simp
            refine hK.out _ _ ?_ (fun hH => ?_)
            · exact (D.out.fin (x - 1) (tbA y) (tbB z)).2.2
            clear hK K
            try simp only [Act.put, List.getElem_toArray, List.getElem_cons_succ, List.getElem_cons_zero, List.setIfInBounds_toArray, List.set_cons_zero, List.set_cons_succ]
            refine wpAnyH_done (by kernel_rfl) ?_ _
            refine NoPanic.normal ?_
            go_wp2
            refine bodyPost_ret (res_drLV _ rfl (D.out.fin (x - 1) (tbA y) (tbB z)).1) rfl ?_
            exact ⟨x - 1, tbA y, tbB z, rfl, (D.out.fin (x - 1) (tbA y) (tbB z)).2.1⟩
        · go_simp
          refine (pickX _ _ 4 _ D.out.2.1 (by omega) (by omega) (by omega)).mono ?_
          rintro e w3 ⟨z, z0, z1, rfl, hr, hg⟩
          have D := Lib.hid (D.out.next hr hg)
          clear hr hg
          refine hK.out _ _ ?_ (fun hH => ?_)
          · exact D.out.1
          clear hK K
          try simp only [Act.put, List.getElem_toArray, List.getElem_cons_succ, List.getElem_cons_zero, List.setIfInBounds_toArray, List.set_cons_zero, List.set_cons_succ]
          refine wpAnyH_ready (rs := [8]) (by kernel_rfl) (by simp) ?_
          refine AllReadyH.cons rfl (fun K hK => ?_) (AllReadyH.nil)
          · have D := Lib.hid (D.out.newB 3)
            go_simp
            refine hK.out _ _ ?_ (fun hH => ?_)
            · exact D.out.1.lessB
            clear hK K
            try simp only [Act.put, List.getElem_toArray, List.getElem_cons_succ, List.getElem_cons_zero, List.setIfInBounds_toArray, List.set_cons_zero, List.set_cons_succ]
            refine wpAnyH_weaken (S' := D.out.S) (fun _ h => SV.lessB h) _ _ _ _ ?_
            have hH := D.out.1
            refine wpAnyH_take (i := 11) (v := ?_) rfl (by kernel_rfl) (by kernel_rfl) (by kernel_rfl) (fun _ _ _ h => h) (Or.inl ⟨by kernel_rfl, ?_⟩) (by assumption) ?_
            rotate_left
            · (intro W hSw; go_simp; try with_reducible rfl)
            try simp only [Act.put, List.getElem_toArray, List.getElem_cons_succ, List.getElem_cons_zero, List.setIfInBounds_toArray, List.set_cons_zero, List.set_cons_succ]
            refine wpAnyH_take (i := 12) (v := ?_) rfl (by kernel_rfl) (by kernel_rfl) (by kernel_rfl) (fun _ _ _ h => h) (Or.inl ⟨by kernel_rfl, ?_⟩) (by assumption) ?_
            rotate_left
            · (intro W hSw; have u0 := (hSw.2.2 _ rfl).1.at z0 z1; (try simp only [World.size_alloc] at u0); go_simp; try with_reducible rfl)
            try simp only [Act.put, List.getElem_toArray, List.getElem_cons_succ, List.getElem_cons_zero, List.setIfInBounds_toArray, List.set_cons_zero, List.set_cons_succ]
            refine wpAnyH_take (i := 13) (v := ?_) rfl (by kernel_rfl) (by kernel_rfl) (by kernel_rfl) (fun _ _ _ h => h) (Or.inl ⟨by kernel_rfl, ?_⟩) (by assumption) ?_
            rotate_left
            · (intro W hSw; go_simp; try with_reducible rfl)
            try simp only [Act.put, List.getElem_toArray, List.getElem_cons_succ, List.getElem_cons_zero, List.setIfInBounds_toArray, List.set_cons_zero, List.set_cons_succ]
            refine wpAnyH_ready (rs := [14]) (by kernel_rfl) (by simp) ?_
            refine AllReadyH.cons rfl (fun K hK => ?_) AllReadyH.nil
            obtain ⟨p1, a1, v1, hz⟩ := D.out.1.1
            obtain ⟨k0, k1, k2⟩ := cells3 hz.ab
            have f0 := hz.fz 0
            have f1 := hz.fz 1
            have f2 := hz.fz 2
            go_simp
            refine hK.out _ _ ?_ (fun hH => ?_)
            · exact (D.out.fin (x - 1) (tbA y) (tbB z)).2.2
            clear hK K
            try simp only [Act.put, List.getElem_toArray, List.getElem_cons_succ, List.getElem_cons_zero, List.setIfInBounds_toArray, List.set_cons_zero, List.set_cons_succ]
            refine wpAnyH_done (by kernel_rfl) ?_ _
            refine NoPanic.normal ?_
            go_wp2
            refine bodyPost_ret (res_drLV _ rfl (D.out.fin (x - 1) (tbA y) (tbB z)).1) rfl ?_
            exact ⟨x - 1, tbA y, tbB z, rfl, (D.out.fin (x - 1) (tbA y) (tbB z)).2.1⟩
      · have D := Lib.hid (D.out.newB 3)
        go_simp
        refine hK.out _ _ ?_ (fun hH => ?_)
        · exact D.out.1.lessB
        clear hK K
        try simp only [Act.put, List.getElem_toArray, List.getElem_cons_succ, List.getElem_cons_zero, List.setIfInBounds_toArray, List.set_cons_zero, List.set_cons_succ]
        refine wpAnyH_weaken (S' := D.out.S) (fun _ h => SV.lessB h) _ _ _ _ ?_
        have hH := D.out.1
        refine wpAnyH_ready (rs := [3, 10]) (by kernel_rfl) (by simp) ?_
        refine AllReadyH.cons rfl (fun K hK => ?_) (AllReadyH.cons rfl (fun K hK => ?_) (AllReadyH.nil))
        · have D := Lib.hid (D.out.newA 3)
          go_simp
          refine hK.out _ _ ?_ (fun hH => ?_)
          · exact D.out.1.lessA
          clear hK K
          try simp only [Act.put, List.getElem_toArray, List.getElem_cons_succ, List.getElem_cons_zero, List.setIfInBounds_toArray, List.set_cons_zero, List.set_cons_succ]
          refine wpAnyH_weaken (S' := D.out.S) (fun _ h => SV.lessA h) _ _ _ _ ?_
          have hH := D.out.1
          refine wpAnyH_take (i := 6) (v := ?_) rfl (by kernel_rfl) (by kernel_rfl) (by kernel_rfl) (fun _ _ _ h => h) (Or.inl ⟨by kernel_rfl, ?_⟩) (by assumption) ?_
          rotate_left
          · (intro W hSw; go_simp; try with_reducible rfl)
          try simp only [Act.put, List.getElem_toArray, List.getElem_cons_succ, List.getElem_cons_zero, List.setIfInBounds_toArray, List.set_cons_zero, List.set_cons_succ]
          refine wpAnyH_take (i := 7) (v := ?_) rfl (by kernel_rfl) (by kernel_rfl) (by kernel_rfl) (fun _ _ _ h => h) (Or.inl ⟨by kernel_rfl, ?_⟩) (by assumption) ?_
          rotate_left
          · (intro W hSw; have u0 := (hSw.2.1 _ rfl).1.at y0 y1; (try simp only [World.size_alloc] at u0); go_simp; try with_reducible rfl)
          try simp only [Act.put, List.getElem_toArray, List.getElem_cons_succ, List.getElem_cons_zero, List.setIfInBounds_toArray, List.set_cons_zero, List.set_cons_succ]
          refine wpAnyH_ready (rs := [10]) (by kernel_rfl) (by simp) ?_
          refine AllReadyH.cons rfl (fun K hK => ?_) (AllReadyH.nil)
          · go_simp
            refine (pickX _ _ 4 _ D.out.2.1 (by omega) (by omega) (by omega)).mono ?_
            rintro e w3 ⟨z, z0, z1, rfl, hr, hg⟩
            have D := Lib.hid (D.out.next hr hg)
            clear hr hg
            refine hK.out _ _ ?_ (fun hH => ?_)
            · exact D.out.1
            clear hK K
            try simp only [Act.put, List.getElem_toArray, List.getElem_cons_succ, List.getElem_cons_zero, List.setIfInBounds_toArray, List.set_cons_zero, List.set_cons_succ]
            refine wpAnyH_take (i := 11) (v := ?_) rfl (by kernel_rfl) (by kernel_rfl) (by kernel_rfl) (fun _ _ _ h => h) (Or.inl ⟨by kernel_rfl, ?_⟩) (by assumption) ?_
            rotate_left
            · (intro W hSw; go_simp; try with_reducible rfl)
            try simp only [Act.put, List.getElem_toArray, List.getElem_cons_succ, List.getElem_cons_zero, List.setIfInBounds_toArray, List.set_cons_zero, List.set_cons_succ]
            refine wpAnyH_take (i := 12) (v := ?_) rfl (by kernel_rfl) (by kernel_rfl) (by kernel_rfl) (fun _ _ _ h => h) (Or.inl ⟨by kernel_rfl, ?_⟩) (by assumption) ?_
            rotate_left
            · (intro W hSw; have u0 := (hSw.2.2 _ rfl).1.at z0 z1; (try simp only [World.size_alloc] at u0); go_simp; try with_reducible rfl)
            try simp only [Act.put, List.getElem_toArray, List.getElem_cons_succ, List.getElem_cons_zero, List.setIfInBounds_toArray, List.set_cons_zero, List.set_cons_succ]
            refine wpAnyH_take (i := 13) (v := ?_) rfl (by kernel_rfl) (by kernel_rfl) (by kernel_rfl) (fun _ _ _ h => h) (Or.inl ⟨by kernel_rfl, ?_⟩) (by assumption) ?_
            rotate_left
            · (intro W hSw; go_simp; try with_reducible rfl)
            try simp only [Act.put, List.getElem_toArray, List.getElem_cons_succ, List.getElem_cons_zero, List.setIfInBounds_toArray, List.set_cons_zero, List.set_cons_succ]
            refine wpAnyH_ready (rs := [14]) (by kernel_rfl) (by simp) ?_
            refine AllReadyH.cons rfl (fun K hK => ?_) AllReadyH.nil
            obtain ⟨p1, a1, v1, hz⟩ := D.out.1.1
            obtain ⟨k0, k1, k2⟩ := cells3 hz.ab
            have f0 := hz.fz 0
            have f1 := hz.fz 1
            have f2 := hz.fz 2
            go_simp
            refine hK.out _ _ ?_ (fun hH => ?_)
            · exact (D.out.fin (x - 1) (tbA y) (tbB z)).2.2
            clear hK K
            try simp only [Act.put, List.getElem_toArray, List.getElem_cons_succ, List.getElem_cons_zero, List.setIfInBounds_toArray, List.set_cons_zero, List.set_cons_succ]
            refine wpAnyH_done (by kernel_rfl) ?_ _
            refine NoPanic.normal ?_
            go_wp2
            refine bodyPost_ret (res_drLV _ rfl (D.out.fin (x - 1) (tbA y) (tbB z)).1) rfl ?_
            exact ⟨x - 1, tbA y, tbB z, rfl, (D.out.fin (x - 1) (tbA y) (tbB z)).2.1⟩
        · go_simp
          refine (pickX _ _ 4 _ D.out.2.1 (by omega) (by omega) (by omega)).mono ?_
          rintro e w3 ⟨z, z0, z1, rfl, hr, hg⟩
          have D := Lib.hid (D.out.next hr hg)
          clear hr hg
          refine hK.out _ _ ?_ (fun hH => ?_)
          · exact D.out.1
          clear hK K
          try simp only [Act.put, List.getElem_toArray, List.getElem_cons_succ, List.getElem_cons_zero, List.setIfInBounds_toArray, List.set_cons_zero, List.set_cons_succ]
          refine wpAnyH_take (i := 11) (v := ?_) rfl (by kernel_rfl) (by kernel_rfl) (by kernel_rfl) (fun _ _ _ h => h) (Or.inl ⟨by kernel_rfl, ?_⟩) (by assumption) ?_
          rotate_left
          · (intro W hSw; go_simp; try with_reducible rfl)
          try simp only [Act.put, List.getElem_toArray, List.getElem_cons_succ, List.getElem_cons_zero, List.setIfInBounds_toArray, List.set_cons_zero, List.set_cons_succ]
          refine wpAnyH_take (i := 12) (v := ?_) rfl (by kernel_rfl) (by kernel_rfl) (by kernel_rfl) (fun _ _ _ h => h) (Or.inl ⟨by kernel_rfl, ?_⟩) (by assumption) ?_
          rotate_left
          · (intro W hSw; have u0 := (hSw.2.2 _ rfl).1.at z0 z1; (try simp only [World.size_alloc] at u0); go_simp; try with_reducible rfl)
          try simp only [Act.put, List.getElem_toArray, List.getElem_cons_succ, List.getElem_cons_zero, List.setIfInBounds_toArray, List.set_cons_zero, List.set_cons_succ]
          refine wpAnyH_ready (rs := [3]) (by kernel_rfl) (by simp) ?_
          refine AllReadyH.cons rfl (fun K hK => ?_) (AllReadyH.nil)
          · have D := Lib.hid (D.out.newA 3)
            go_simp
            refine hK.out _ _ ?_ (fun hH => ?_)
            · exact D.out.1.lessA
            clear hK K
            try simp only [Act.put, List.getElem_toArray, List.getElem_cons_succ, List.getElem_cons_zero, List.setIfInBounds_toArray, List.set_cons_zero, List.set_cons_succ]
            refine wpAnyH_weaken (S' := D.out.S) (fun _ h => SV.lessA h) _ _ _ _ ?_
            have hH := D.out.1
            refine wpAnyH_take (i := 6) (v := ?_) rfl (by kernel_rfl) (by kernel_rfl) (by kernel_rfl) (fun _ _ _ h => h) (Or.inl ⟨by kernel_rfl, ?_⟩) (by assumption) ?_
            rotate_left
            · (intro W hSw; go_simp; try with_reducible rfl)
            try simp only [Act.put, List.getElem_toArray, List.getElem_cons_succ, List.getElem_cons_zero, List.setIfInBounds_toArray, List.set_cons_zero, List.set_cons_succ]
            refine wpAnyH_take (i := 7) (v := ?_) rfl (by kernel_rfl) (by kernel_rfl) (by kernel_rfl) (fun _ _ _ h => h) (Or.inl ⟨by kernel_rfl, ?_⟩) (by assumption) ?_
            rotate_left
            · (intro W hSw; have u0 := (hSw.2.1 _ rfl).1.at y0 y1; (try simp only [World.size_alloc] at u0); go_simp; try with_reducible rfl)
            try simp only [Act.put, List.getElem_toArray, List.getElem_cons_succ, List.getElem_cons_zero, List.setIfInBounds_toArray, List.set_cons_zero, List.set_cons_succ]
            refine wpAnyH_take (i := 13) (v := ?_) rfl (by kernel_rfl) (by kernel_rfl) (by kernel_rfl) (fun _ _ _ h => h) (Or.inl ⟨by kernel_rfl, ?_⟩) (by assumption) ?_
            rotate_left
            · (intro W hSw; go_simp; try with_reducible rfl)
            try simp only [Act.put, List.getElem_toArray, List.getElem_cons_succ, List.getElem_cons_zero, List.setIfInBounds_toArray, List.set_cons_zero, List.set_cons_succ]
            refine wpAnyH_ready (rs := [14]) (by kernel_rfl) (by simp) ?_
            refine AllReadyH.cons rfl (fun K hK => ?_) AllReadyH.nil
            obtain ⟨p1, a1, v1, hz⟩ := D.out.1.1
            obtain ⟨k0, k1, k2⟩ := cells3 hz.ab
            have f0 := hz.fz 0
            have f1 := hz.fz 1
            have f2 := hz.fz 2
            go_simp
            refine hK.out _ _ ?_ (fun hH => ?_)
            · exact (D.out.fin (x - 1) (tbA y) (tbB z)).2.2
            clear hK K
            try simp only [Act.put, List.getElem_toArray, List.getElem_cons_succ, List.getElem_cons_zero, List.setIfInBounds_toArray, List.set_cons_zero, List.set_cons_succ]
            refine wpAnyH_done (by kernel_rfl) ?_ _
            refine NoPanic.normal ?_
            go_wp2
            refine bodyPost_ret (res_drLV _ rfl (D.out.fin (x - 1) (tbA y) (tbB z)).1) rfl ?_
            exact ⟨x - 1, tbA y, tbB z, rfl, (D.out.fin (x - 1) (tbA y) (tbB z)).2.1⟩
      · go_simp
        refine (pickX _ _ 4 _ D.out.2.1 (by omega) (by omega) (by omega)).mono ?_
        rintro e w3 ⟨z, z0, z1, rfl, hr, hg⟩
        have D := Lib.hid (D.out.next hr hg)
        clear hr hg
        refine hK.out _ _ ?_ (fun hH => ?_)
        · exact D.out.1
        clear hK K
        try simp only [Act.put, List.getElem_toArray, List.getElem_cons_succ, List.getElem_cons_zero, List.setIfInBounds_toArray, List.set_cons_zero, List.set_cons_succ]
        refine wpAnyH_ready (rs := [3, 8]) (by kernel_rfl) (by simp) ?_
        refine AllReadyH.cons rfl (fun K hK => ?_) (AllReadyH.cons rfl (fun K hK => ?_) (AllReadyH.nil))
        · have D := Lib.hid (D.out.newA 3)
          go_simp
          refine hK.out _ _ ?_ (fun hH => ?_)
          · exact D.out.1.lessA
          clear hK K
          try simp only [Act.put, List.getElem_toArray, List.getElem_cons_succ, List.getElem_cons_zero, List.setIfInBounds_toArray, List.set_cons_zero, List.set_cons_succ]
          refine wpAnyH_weaken (S' := D.out.S) (fun _ h => SV.lessA h) _ _ _ _ ?_
          have hH := D.out.1
          refine wpAnyH_take (i := 6) (v := ?_) rfl (by kernel_rfl) (by kernel_rfl) (by kernel_rfl) (fun _ _ _ h => h) (Or.inl ⟨by kernel_rfl, ?_⟩) (by assumption) ?_
          rotate_left
          · (intro W hSw; go_simp; try with_reducible rfl)
          try simp only [Act.put, List.getElem_toArray, List.getElem_cons_succ, List.getElem_cons_zero, List.setIfInBounds_toArray, List.set_cons_zero, List.set_cons_succ]
          refine wpAnyH_take (i := 7) (v := ?_) rfl (by kernel_rfl) (by kernel_rfl) (by kernel_rfl) (fun _ _ _ h => h) (Or.inl ⟨by kernel_rfl, ?_⟩) (by assumption) ?_
          rotate_left
          · (intro W hSw; have u0 := (hSw.2.1 _ rfl).1.at y0 y1; (try simp only [World.size_alloc] at u0); go_simp; try with_reducible rfl)
          try simp only [Act.put, List.getElem_toArray, List.getElem_cons_succ, List.getElem_cons_zero, List.setIfInBounds_toArray, List.set_cons_zero, List.set_cons_succ]
          refine wpAnyH_ready (rs := [8]) (by kernel_rfl) (by simp) ?_
          refine AllReadyH.cons rfl (fun K hK => ?_) (AllReadyH.nil)
          · have D := Lib.hid (D.out.newB 3)
            go_simp
            refine hK.out _ _ ?_ (fun hH => ?_)
            · exact D.out.1.lessB
            clear hK K
            try simp only [Act.put, List.getElem_toArray, List.getElem_cons_succ, List.getElem_cons_zero, List.setIfInBounds_toArray, List.set_cons_zero, List.set_cons_succ]
            refine wpAnyH_weaken (S' := D.out.S) (fun _ h => SV.lessB h) _ _ _ _ ?_
            have hH := D.out.1
            refine wpAnyH_take (i := 11) (v := ?_) rfl (by kernel_rfl) (by kernel_rfl) (by kernel_rfl) (fun _ _ _ h => h) (Or.inl ⟨by kernel_rfl, ?_⟩) (by assumption) ?_
            rotate_left
            · (intro W hSw; go_simp; try with_reducible rfl)
            try simp only [Act.put, List.getElem_toArray, List.getElem_cons_succ, List.getElem_cons_zero, List.setIfInBounds_toArray, List.set_cons_zero, List.set_cons_succ]
            refine wpAnyH_take (i := 12) (v := ?_) rfl (by kernel_rfl) (by kernel_rfl) (by kernel_rfl) (fun _ _ _ h => h) (Or.inl ⟨by kernel_rfl, ?_⟩) (by assumption) ?_
            rotate_left
            · (intro W hSw; have u0 := (hSw.2.2 _ rfl).1.at z0 z1; (try simp only [World.size_alloc] at u0); go_simp; try with_reducible rfl)
            try simp only [Act.put, List.getElem_toArray, List.getElem_cons_succ, List.getElem_cons_zero, List.setIfInBounds_toArray, List.set_cons_zero, List.set_cons_succ]
            refine wpAnyH_take (i := 13) (v := ?_) rfl (by kernel_rfl) (by kernel_rfl) (by kernel_rfl) (fun _ _ _ h => h) (Or.inl ⟨by kernel_rfl, ?_⟩) (by assumption) ?_
            rotate_left
            · (intro W hSw; go_simp; try with_reducible rfl)
            try simp only [Act.put, List.getElem_toArray, List.getElem_cons_succ, List.getElem_cons_zero, List.setIfInBounds_toArray, List.set_cons_zero, List.set_cons_succ]
            refine wpAnyH_ready (rs := [14]) (by kernel_rfl) (by simp) ?_
            refine AllReadyH.cons rfl (fun K hK => ?_) AllReadyH.nil
            obtain ⟨p1, a1, v1, hz⟩ := D.out.1.1
            obtain ⟨k0, k1, k2⟩ := cells3 hz.ab
            have f0 := hz.fz 0
            have f1 := hz.fz 1
            have f2 := hz.fz 2
            go_simp
            refine hK.out _ _ ?_ (fun hH => ?_)
            · exact (D.out.fin (x - 1) (tbA y) (tbB z)).2.2
            clear hK K
            try simp only [Act.put, List.getElem_toArray, List.getElem_cons_succ, List.getElem_cons_zero, List.setIfInBounds_toArray, List.set_cons_zero, List.set_cons_succ]
            refine wpAnyH_done (by kernel_rfl) ?_ _
            refine NoPanic.normal ?_
            go_wp2
            refine bodyPost_ret (res_drLV _ rfl (D.out.fin (x - 1) (tbA y) (tbB z)).1) rfl ?_
            exact ⟨x - 1, tbA y, tbB z, rfl, (D.out.fin (x - 1) (tbA y) (tbB z)).2.1⟩
        · have D := Lib.hid (D.out.newB 3)
          go_simp
          refine hK.out _ _ ?_ (fun hH => ?_)
          · exact D.out.1.lessB
          clear hK K
          try simp only [Act.put, List.getElem_toArray, List.getElem_cons_succ, List.getElem_cons_zero, List.setIfInBounds_toArray, List.set_cons_zero, List.set_cons_succ]
          refine wpAnyH_weaken (S' := D.out.S) (fun _ h => SV.lessB h) _ _ _ _ ?_
          have hH := D.out.1
          refine wpAnyH_take (i := 11) (v := ?_) rfl (by kernel_rfl) (by kernel_rfl) (by kernel_rfl) (fun _ _ _ h => h) (Or.inl ⟨by kernel_rfl, ?_⟩) (by assumption) ?_
          rotate_left
          · (intro W hSw; go_simp; try with_reducible rfl)
          try simp only [Act.put, List.getElem_toArray, List.getElem_cons_succ, List.getElem_cons_zero, List.setIfInBounds_toArray, List.set_cons_zero, List.set_cons_succ]
          refine wpAnyH_take (i := 12) (v := ?_) rfl (by kernel_rfl) (by kernel_rfl) (by kernel_rfl) (fun _ _ _ h => h) (Or.inl ⟨by kernel_rfl, ?_⟩) (by assumption) ?_
          rotate_left
          · (intro W hSw; have u0 := (hSw.2.2 _ rfl).1.at z0 z1; (try simp only [World.size_alloc] at u0); go_simp; try with_reducible rfl)
          try simp only [Act.put, List.getElem_toArray, List.getElem_cons_succ, List.getElem_cons_zero, List.setIfInBounds_toArray, List.set_cons_zero, List.set_cons_succ]
          refine wpAnyH_ready (rs := [3]) (by kernel_rfl) (by simp) ?_
          refine AllReadyH.cons rfl (fun K hK => ?_) (AllReadyH.nil)
          · have D := Lib.hid (D.out.newA 3)
            go_simp
            refine hK.out _ _ ?_ (fun hH => ?_)
            · exact D.out.1.lessA
            clear hK K
            try simp only [Act.put, List.getElem_toArray, List.getElem_cons_succ, List.getElem_cons_zero, List.setIfInBounds_toArray, List.set_cons_zero, List.set_cons_succ]
            refine wpAnyH_weaken (S' := D.out.S) (fun _ h => SV.lessA h) _ _ _ _ ?_
            have hH := D.out.1
            refine wpAnyH_take (i := 6) (v := ?_) rfl (by kernel_rfl) (by kernel_rfl) (by kernel_rfl) (fun _ _ _ h => h) (Or.inl ⟨by kernel_rfl, ?_⟩) (by assumption) ?_
            rotate_left
            · (intro W hSw; go_simp; try with_reducible rfl)
            try simp only [Act.put, List.getElem_toArray, List.getElem_cons_succ, List.getElem_cons_zero, List.setIfInBounds_toArray, List.set_cons_zero, List.set_cons_succ]
            refine wpAnyH_take (i := 7) (v := ?_) rfl (by kernel_rfl) (by kernel_rfl) (by kernel_rfl) (fun _ _ _ h => h) (Or.inl ⟨by kernel_rfl, ?_⟩) (by assumption) ?_
            rotate_left
            · (intro W hSw; have u0 := (hSw.2.1 _ rfl).1.at y0 y1; (try simp only [World.size_alloc] at u0); go_simp; try with_reducible rfl)
            try simp only [Act.put, List.getElem_toArray, List.getElem_cons_succ, List.getElem_cons_zero, List.setIfInBounds_toArray, List.set_cons_zero, List.set_cons_succ]
            refine wpAnyH_take (i := 13) (v := ?_) rfl (by kernel_rfl) (by kernel_rfl) (by kernel_rfl) (fun _ _ _ h => h) (Or.inl ⟨by kernel_rfl, ?_⟩) (by assumption) ?_
            rotate_left
            · (intro W hSw; go_simp; try with_reducible rfl)
            try simp only [Act.put, List.getElem_toArray, List.getElem_cons_succ, List.getElem_cons_zero, List.setIfInBounds_toArray, List.set_cons_zero, List.set_cons_succ]
            refine wpAnyH_ready (rs := [14]) (by kernel_rfl) (by simp) ?_
            refine AllReadyH.cons rfl (fun K hK => ?_) AllReadyH.nil
            obtain ⟨p1, a1, v1, hz⟩ := D.out.1.1
            obtain ⟨k0, k1, k2⟩ := cells3 hz.ab
            have f0 := hz.fz 0
            have f1 := hz.fz 1
            have f2 := hz.fz 2
            go_simp
            refine hK.out _ _ ?_ (fun hH => ?_)
            · exact (D.out.fin (x - 1) (tbA y) (tbB z)).2.2
            clear hK K
            try simp only [Act.put, List.getElem_toArray, List.getElem_cons_succ, List.getElem_cons_zero, List.setIfInBounds_toArray, List.set_cons_zero, List.set_cons_succ]
            refine wpAnyH_done (by kernel_rfl) ?_ _
            refine NoPanic.normal ?_
            go_wp2
            refine bodyPost_ret (res_drLV _ rfl (D.out.fin (x - 1) (tbA y) (tbB z)).1) rfl ?_
            exact ⟨x - 1, tbA y, tbB z, rfl, (D.out.fin (x - 1) (tbA y) (tbB z)).2.1⟩
    · have D := Lib.hid (D.out.newB 3)
      go_simp
      refine hK.out _ _ ?_ (fun hH => ?_)
      · exact D.out.1.lessB
      clear hK K
      try simp only [Act.put, List.getElem_toArray, List.getElem_cons_succ, List.getElem_cons_zero, List.setIfInBounds_toArray, List.set_cons_zero, List.set_cons_succ]
      refine wpAnyH_weaken (S' := D.out.S) (fun _ h => SV.lessB h) _ _ _ _ ?_
      have hH := D.out.1
      refine wpAnyH_ready (rs := [3, 5]) (by kernel_rfl) (by simp) ?_
      refine AllReadyH.cons rfl (fun K hK => ?_) (AllReadyH.cons rfl (fun K hK => ?_) (AllReadyH.nil))
      · have D := Lib.hid (D.out.newA 3)
        go_simp
        refine hK.out _ _ ?_ (fun hH => ?_)
        · exact D.out.1.lessA
        clear hK K
        try simp only [Act.put, List.getElem_toArray, List.getElem_cons_succ, List.getElem_cons_zero, List.setIfInBounds_toArray, List.set_cons_zero, List.set_cons_succ]
        refine wpAnyH_weaken (S' := D.out.S) (fun _ h => SV.lessA h) _ _ _ _ ?_
        have hH := D.out.1
        refine wpAnyH_ready (rs := [5]) (by kernel_rfl) (by simp) ?_
        refine AllReadyH.cons rfl (fun K hK => ?_) (AllReadyH.nil)
        · go_simp
          refine (pickX _ _ 3 _ D.out.2.1 (by omega) (by omega) (by omega)).mono ?_
          rintro e w3 ⟨y, y0, y1, rfl, hr, hg⟩
          have D := Lib.hid (D.out.next hr hg)
          clear hr hg
          refine hK.out _ _ ?_ (fun hH => ?_)
          · exact D.out.1
          clear hK K
          try simp only [Act.put, List.getElem_toArray, List.getElem_cons_succ, List.getElem_cons_zero, List.setIfInBounds_toArray, List.set_cons_zero, List.set_cons_succ]
          refine wpAnyH_take (i := 6) (v := ?_) rfl (by kernel_rfl) (by kernel_rfl) (by kernel_rfl) (fun _ _ _ h => h) (Or.inl ⟨by kernel_rfl, ?_⟩) (by assumption) ?_
          rotate_left
          · (intro W hSw; go_simp; try with_reducible rfl)
          try simp only [Act.put, List.getElem_toArray, List.getElem_cons_succ, List.getElem_cons_zero, List.setIfInBounds_toArray, List.set_cons_zero, List.set_cons_succ]
          refine wpAnyH_take (i := 7) (v := ?_) rfl (by kernel_rfl) (by kernel_rfl) (by kernel_rfl) (fun _ _ _ h => h) (Or.inl ⟨by kernel_rfl, ?_⟩) (by assumption) ?_
          rotate_left
          · (intro W hSw; have u0 := (hSw.2.1 _ rfl).1.at y0 y1; (try simp only [World.size_alloc] at u0); go_simp; try with_reducible rfl)
          try simp only [Act.put, List.getElem_toArray, List.getElem_cons_succ, List.getElem_cons_zero, List.setIfInBounds_toArray, List.set_cons_zero, List.set_cons_succ]
          refine wpAnyH_ready (rs := [10]) (by kernel_rfl) (by simp) ?_
          refine AllReadyH.cons rfl (fun K hK => ?_) (AllReadyH.nil)
          · go_simp
            refine (pickX _ _ 4 _ D.out.2.1 (by omega) (by omega) (by omega)).mono ?_
            rintro e w3 ⟨z, z0, z1, rfl, hr, hg⟩
            have D := Lib.hid (D.out.next hr hg)
            clear hr hg
            refine hK.out _ _ ?_ (fun hH => ?_)
            · exact D.out.1
            clear hK K
            try simp only [Act.put, List.getElem_toArray, List.getElem_cons_succ, List.getElem_cons_zero, List.setIfInBounds_toArray, List.set_cons_zero, List.set_cons_succ]
            refine wpAnyH_take (i := 11) (v := ?_) rfl (by kernel_rfl) (by kernel_rfl) (by kernel_rfl) (fun _ _ _ h => h) (Or.inl ⟨by kernel_rfl, ?_⟩) (by assumption) ?_
            rotate_left
            · (intro W hSw; go_simp; try with_reducible rfl)
            try simp only [Act.put, List.getElem_toArray, List.getElem_cons_succ, List.getElem_cons_zero, List.setIfInBounds_toArray, List.set_cons_zero, List.set_cons_succ]
            refine wpAnyH_take (i := 12) (v := ?_) rfl (by kernel_rfl) (by kernel_rfl) (by kernel_rfl) (fun _ _ _ h => h) (Or.inl ⟨by kernel_rfl, ?_⟩) (by assumption) ?_
            rotate_left
            · (intro W hSw; have u0 := (hSw.2.2 _ rfl).1.at z0 z1; (try simp only [World.size_alloc] at u0); go_simp; try with_reducible rfl)
            try simp only [Act.put, List.getElem_toArray, List.getElem_cons_succ, List.getElem_cons_zero, List.setIfInBounds_toArray, List.set_cons_zero, List.set_cons_succ]
            refine wpAnyH_take (i := 13) (v := ?_) rfl (by kernel_rfl) (by kernel_rfl) (by kernel_rfl) (fun _ _ _ h => h) (Or.inl ⟨by kernel_rfl, ?_⟩) (by assumption) ?_
            rotate_left
            · (intro W hSw; go_simp; try with_reducible rfl)
            try simp only [Act.put, List.getElem_toArray, List.getElem_cons_succ, List.getElem_cons_zero, List.setIfInBounds_toArray, List.set_cons_zero, List.set_cons_succ]
            refine wpAnyH_ready (rs := [14]) (by kernel_rfl) (by simp) ?_
            refine AllReadyH.cons rfl (fun K hK => ?_) AllReadyH.nil
            obtain ⟨p1, a1, v1, hz⟩ := D.out.1.1
            obtain ⟨k0, k1, k2⟩ := cells3 hz.ab
            have f0 := hz.fz 0
            have f1 := hz.fz 1
            have f2 := hz.fz 2
            go_simp
            refine hK.out _ _ ?_ (fun hH => ?_)
            · exact (D.out.fin (x - 1) (tbA y) (tbB z)).2.2
            clear hK K
            try simp only [Act.put, List.getElem_toArray, List.getElem_cons_succ, List.getElem_cons_zero, List.setIfInBounds_toArray, List.set_cons_zero, List.set_cons_succ]
            refine wpAnyH_done (by kernel_rfl) ?_ _
            refine NoPanic.normal ?_
            go_wp2
            refine bodyPost_ret (res_drLV _ rfl (D.out.fin (x - 1) (tbA y) (tbB z)).1) rfl ?_
            exact ⟨x - 1, tbA y, tbB z, rfl, (D.out.fin (x - 1) (tbA y) (tbB z)).2.1⟩
      · go_simp
        refine (pickX _ _ 3 _ D.out.2.1 (by omega) (by omega) (by omega)).mono ?_
        rintro e w3 ⟨y, y0, y1, rfl, hr, hg⟩
        have D := Lib.hid (D.out.next hr hg)
        clear hr hg
        refine hK.out _ _ ?_ (fun hH => ?_)
        · exact D.out.1
        clear hK K
        try simp only [Act.put, List.getElem_toArray, List.getElem_cons_succ, List.getElem_cons_zero, List.setIfInBounds_toArray, List.set_cons_zero, List.set_cons_succ]
        refine wpAnyH_ready (rs := [3, 10]) (by kernel_rfl) (by simp) ?_
        refine AllReadyH.cons rfl (fun K hK => ?_) (AllReadyH.cons rfl (fun K hK => ?_) (AllReadyH.nil))
        · have D := Lib.hid (D.out.newA 3)
          go_simp
          refine hK.out _ _ ?_ (fun hH => ?_)
          · exact D.out.1.lessA
          clear hK K
          try simp only [Act.put, List.getElem_toArray, List.getElem_cons_succ, List.getElem_cons_zero, List.setIfInBounds_toArray, List.set_cons_zero, List.set_cons_succ]
          refine wpAnyH_weaken (S' := D.out.S) (fun _ h => SV.lessA h) _ _ _ _ ?_
          have hH := D.out.1
          refine wpAnyH_take (i := 6) (v := ?_) rfl (by kernel_rfl) (by kernel_rfl) (by kernel_rfl) (fun _ _ _ h => h) (Or.inl ⟨by kernel_rfl, ?_⟩) (by assumption) ?_
          rotate_left
          · (intro W hSw; go_simp; try with_reducible rfl)
          try simp only [Act.put, List.getElem_toArray, List.getElem_cons_succ, List.getElem_cons_zero, List.setIfInBounds_toArray, List.set_cons_zero, List.set_cons_succ]
          refine wpAnyH_take (i := 7) (v := ?_) rfl (by kernel_rfl) (by kernel_rfl) (by kernel_rfl) (fun _ _ _ h => h) (Or.inl ⟨by kernel_rfl, ?_⟩) (by assumption) ?_
          rotate_left
          · (intro W hSw; have u0 := (hSw.2.1 _ rfl).1.at y0 y1; (try simp only [World.size_alloc] at u0); go_simp; try with_reducible rfl)
          try simp only [Act.put, List.getElem_toArray, List.getElem_cons_succ, List.getElem_cons_zero, List.setIfInBounds_toArray, List.set_cons_zero, List.set_cons_succ]
          refine wpAnyH_ready (rs := [10]) (by kernel_rfl) (by simp) ?_
          refine AllReadyH.cons rfl (fun K hK => ?_) (AllReadyH.nil)
          · go_simp
            refine (pickX _ _ 4 _ D.out.2.1 (by omega) (by omega) (by omega)).mono ?_
            rintro e w3 ⟨z, z0, z1, rfl, hr, hg⟩
            have D := Lib.hid (D.out.next hr hg)
            clear hr hg
            refine hK.out _ _ ?_ (fun hH => ?_)
            · exact D.out.1
            clear hK K
            try simp only [Act.put, List.getElem_toArray, List.getElem_cons_succ, List.getElem_cons_zero, List.setIfInBounds_toArray, List.set_cons_zero, List.set_cons_succ]
            refine wpAnyH_take (i := 11) (v := ?_) rfl (by kernel_rfl) (by kernel_rfl) (by kernel_rfl) (fun _ _ _ h => h) (Or.inl ⟨by kernel_rfl, ?_⟩) (by assumption) ?_
            rotate_left
            · (intro W hSw; go_simp; try with_reducible rfl)
            try simp only [Act.put, List.getElem_toArray, List.getElem_cons_succ, List.getElem_cons_zero, List.setIfInBounds_toArray, List.set_cons_zero, List.set_cons_succ]
            refine wpAnyH_take (i := 12) (v := ?_) rfl (by kernel_rfl) (by kernel_rfl) (by kernel_rfl) (fun _ _ _ h => h) (Or.inl ⟨by kernel_rfl, ?_⟩) (by assumption) ?_
            rotate_left
            · (intro W hSw; have u0 := (hSw.2.2 _ rfl).1.at z0 z1; (try simp only [World.size_alloc] at u0); go_simp; try with_reducible rfl)
            try simp only [Act.put, List.getElem_toArray, List.getElem_cons_succ, List.getElem_cons_zero, List.setIfInBounds_toArray, List.set_cons_zero, List.set_cons_succ]
            refine wpAnyH_take (i := 13) (v := ?_) rfl (by kernel_rfl) (by kernel_rfl) (by kernel_rfl) (fun _ _ _ h => h) (Or.inl ⟨by kernel_rfl, ?_⟩) (by assumption) ?_
            rotate_left
            · (intro W hSw; go_simp; try with_reducible rfl)
            try simp only [Act.put, List.getElem_toArray, List.getElem_cons_succ, List.getElem_cons_zero, List.setIfInBounds_toArray, List.set_cons_zero, List.set_cons_succ]
            refine wpAnyH_ready (rs := [14]) (by kernel_rfl) (by simp) ?_
            refine AllReadyH.cons rfl (fun K hK => ?_) AllReadyH.nil
            obtain ⟨p1, a1, v1, hz⟩ := D.out.1.1
            obtain ⟨k0, k1, k2⟩ := cells3 hz.ab
            have f0 := hz.fz 0
            have f1 := hz.fz 1
            have f2 := hz.fz 2
            go_simp
            refine hK.out _ _ ?_ (fun hH => ?_)
            · exact (D.out.fin (x - 1) (tbA y) (tbB z)).2.2
            clear hK K
            try simp only [Act.put, List.getElem_toArray, List.getElem_cons_succ, List.getElem_cons_zero, List.setIfInBounds_toArray, List.set_cons_zero, List.set_cons_succ]
            refine wpAnyH_done (by kernel_rfl) ?_ _
            refine NoPanic.normal ?_
            go_wp2
            refine bodyPost_ret (res_drLV _ rfl (D.out.fin (x - 1) (tbA y) (tbB z)).1) rfl ?_
            exact ⟨x - 1, tbA y, tbB z, rfl, (D.out.fin (x - 1) (tbA y) (tbB z)).2.1⟩
        · go_simp
          refine (pickX _ _ 4 _ D.out.2.1 (by omega) (by omega) (by omega)).mono ?_
          rintro e w3 ⟨z, z0, z1, rfl, hr, hg⟩
          have D := Lib.hid (D.out.next hr hg)
          clear hr hg
          refine hK.out _ _ ?_ (fun hH => ?_)
          · exact D.out.1
          clear hK K
          try simp only [Act.put, List.getElem_toArray, List.getElem_cons_succ, List.getElem_cons_zero, List.setIfInBounds_toArray, List.set_cons_zero, List.set_cons_succ]
          refine wpAnyH_take (i := 11) (v := ?_) rfl (by kernel_rfl) (by kernel_rfl) (by kernel_rfl) (fun _ _ _ h => h) (Or.inl ⟨by kernel_rfl, ?_⟩) (by assumption) ?_
          rotate_left
          · (intro W hSw; go_simp; try with_reducible rfl)
          try simp only [Act.put, List.getElem_toArray, List.getElem_cons_succ, List.getElem_cons_zero, List.setIfInBounds_toArray, List.set_cons_zero, List.set_cons_succ]
          refine wpAnyH_take (i := 12) (v := ?_) rfl (by kernel_rfl) (by kernel_rfl) (by kernel_rfl) (fun _ _ _ h => h) (Or.inl ⟨by kernel_rfl, ?_⟩) (by assumption) ?_
          rotate_left
          · (intro W hSw; have u0 := (hSw.2.2 _ rfl).1.at z0 z1; (try simp only [World.size_alloc] at u0); go_simp; try with_reducible rfl)
          try simp only [Act.put, List.getElem_toArray, List.getElem_cons_succ, List.getElem_cons_zero, List.setIfInBounds_toArray, List.set_cons_zero, List.set_cons_succ]
          refine wpAnyH_ready (rs := [3]) (by kernel_rfl) (by simp) ?_
          refine AllReadyH.cons rfl (fun K hK => ?_) (AllReadyH.nil)
          · have D := Lib.hid (D.out.newA 3)
            go_simp
            refine hK.out _ _ ?_ (fun hH => ?_)
            · exact D.out.1.lessA
            clear hK K
            try simp only [Act.put, List.getElem_toArray, List.getElem_cons_succ, List.getElem_cons_zero, List.setIfInBounds_toArray, List.set_cons_zero, List.set_cons_succ]
            refine wpAnyH_weaken (S' := D.out.S) (fun _ h => SV.lessA h) _ _ _ _ ?_
            have hH := D.out.1
            refine wpAnyH_take (i := 6) (v := ?_) rfl (by kernel_rfl) (by kernel_rfl) (by kernel_rfl) (fun _ _ _ h => h) (Or.inl ⟨by kernel_rfl, ?_⟩) (by assumption) ?_
            rotate_left
            · (intro W hSw; go_simp; try with_reducible rfl)
            try simp only [Act.put, List.getElem_toArray, List.getElem_cons_succ, List.getElem_cons_zero, List.setIfInBounds_toArray, List.set_cons_zero, List.set_cons_succ]
            refine wpAnyH_take (i := 7) (v := ?_) rfl (by kernel_rfl) (by kernel_rfl) (by kernel_rfl) (fun _ _ _ h => h) (Or.inl ⟨by kernel_rfl, ?_⟩) (by assumption) ?_
            rotate_left
            · (intro W hSw; have u0 := (hSw.2.1 _ rfl).1.at y0 y1; (try simp only [World.size_alloc] at u0); go_simp; try with_reducible rfl)
            try simp only [Act.put, List.getElem_toArray, List.getElem_cons_succ, List.getElem_cons_zero, List.setIfInBounds_toArray, List.set_cons_zero, List.set_cons_succ]
            refine wpAnyH_take (i := 13) (v := ?_) rfl (by kernel_rfl) (by kernel_rfl) (by kernel_rfl) (fun _ _ _ h => h) (Or.inl ⟨by kernel_rfl, ?_⟩) (by assumption) ?_
            rotate_left
            · (intro W hSw; go_simp; try with_reducible rfl)
            try simp only [Act.put, List.getElem_toArray, List.getElem_cons_succ, List.getElem_cons_zero, List.setIfInBounds_toArray, List.set_cons_zero, List.set_cons_succ]
            refine wpAnyH_ready (rs := [14]) (by kernel_rfl) (by simp) ?_
            refine AllReadyH.cons rfl (fun K hK => ?_) AllReadyH.nil
            obtain ⟨p1, a1, v1, hz⟩ := D.out.1.1
            obtain ⟨k0, k1, k2⟩ := cells3 hz.ab
            have f0 := hz.fz 0
            have f1 := hz.fz 1
            have f2 := hz.fz 2
            go_simp
            refine hK.out _ _ ?_ (fun hH => ?_)
            · exact (D.out.fin (x - 1) (tbA y) (tbB z)).2.2
            clear hK K
            try simp only [Act.put, List.getElem_toArray, List.getElem_cons_succ, List.getElem_cons_zero, List.setIfInBounds_toArray, List.set_cons_zero, List.set_cons_succ]
            refine wpAnyH_done (by kernel_rfl) ?_ _
            refine NoPanic.normal ?_
            go_wp2
            refine bodyPost_ret (res_drLV _ rfl (D.out.fin (x - 1) (tbA y) (tbB z)).1) rfl ?_
            exact ⟨x - 1, tbA y, tbB z, rfl, (D.out.fin (x - 1) (tbA y) (tbB z)).2.1⟩
  · have D := Lib.hid (D.out.newA 3)
    go_simp
    refine hK.out _ _ ?_ (fun hH => ?_)
    · exact D.out.1.lessA
    clear hK K
    try simp only [Act.put, List.getElem_toArray, List.getElem_cons_succ, List.getElem_cons_zero, List.setIfInBounds_toArray, List.set_cons_zero, List.set_cons_succ]
    refine wpAnyH_weaken (S' := D.out.S) (fun _ h => SV.lessA h) _ _ _ _ ?_
    have hH := D.out.1
    refine wpAnyH_ready (rs := [1, 8]) (by kernel_rfl) (by simp) ?_
    refine AllReadyH.cons rfl (fun K hK => ?_) (AllReadyH.cons rfl (fun K hK => ?_) (AllReadyH.nil))
    · go_simp
      refine (pickX _ _ 9 _ D.out.2.1 (by omega) (by omega) (by omega)).mono ?_
      rintro e w3 ⟨x, x0, x1, rfl, hr, hg⟩
      have D := Lib.hid (D.out.next hr hg)
      clear hr hg
      have wx : IntKind.i64.wrap (x - 1) = x - 1 := IntWalk.i64_in _ (by omega)
      refine hK.out _ _ ?_ (fun hH => ?_)
      · exact D.out.1
      clear hK K
      try simp only [Act.put, List.getElem_toArray, List.getElem_cons_succ, List.getElem_cons_zero, List.setIfInBounds_toArray, List.set_cons_zero, List.set_cons_succ]
      refine wpAnyH_take (i := 2) (v := ?_) rfl (by kernel_rfl) (by kernel_rfl) (by kernel_rfl) (fun _ _ _ h => h) (Or.inl ⟨by kernel_rfl, ?_⟩) (by assumption) ?_
      rotate_left
      · (intro W hSw; go_simp; try with_reducible rfl)
      try simp only [Act.put, List.getElem_toArray, List.getElem_cons_succ, List.getElem_cons_zero, List.setIfInBounds_toArray, List.set_cons_zero, List.set_cons_succ]
      refine wpAnyH_ready (rs := [5, 8]) (by kernel_rfl) (by simp) ?_
      refine AllReadyH.cons rfl (fun K hK => ?_) (AllReadyH.cons rfl (fun K hK => ?_) (AllReadyH.nil))
      · go_simp
        refine (pickX _ _ 3 _ D.out.2.1 (by omega) (by omega) (by omega)).mono ?_
        rintro e w3 ⟨y, y0, y1, rfl, hr, hg⟩
        have D := Lib.hid (D.out.next hr hg)
        clear hr hg
        refine hK.out _ _ ?_ (fun hH => ?_)
        · exact D.out.1
        clear hK K
        try simp only [Act.put, List.getElem_toArray, List.getElem_cons_succ, List.getElem_cons_zero, List.setIfInBounds_toArray, List.set_cons_zero, List.set_cons_succ]
        refine wpAnyH_take (i := 6) (v := ?_) rfl (by kernel_rfl) (by kernel_rfl) (by kernel_rfl) (fun _ _ _ h => h) (Or.inl ⟨by kernel_rfl, ?_⟩) (by assumption) ?_
        rotate_left
        · (intro W hSw; go_simp; try with_reducible rfl)
        try simp only [Act.put, List.getElem_toArray, List.getElem_cons_succ, List.getElem_cons_zero, List.setIfInBounds_toArray, List.set_cons_zero, List.set_cons_succ]
        refine wpAnyH_take (i := 7) (v := ?_) rfl (by kernel_rfl) (by kernel_rfl) (by kernel_rfl) (fun _ _ _ h => h) (Or.inl ⟨by kernel_rfl, ?_⟩) (by assumption) ?_
        rotate_left
        · (intro W hSw; have u0 := (hSw.2.1 _ rfl).1.at y0 y1; (try simp only [World.size_alloc] at u0); go_simp; try with_reducible rfl)
        try simp only [Act.put, List.getElem_toArray, List.getElem_cons_succ, List.getElem_cons_zero, List.setIfInBounds_toArray, List.set_cons_zero, List.set_cons_succ]
        refine wpAnyH_ready (rs := [8, 10]) (by kernel_rfl) (by simp) ?_
        refine AllReadyH.cons rfl (fun K hK => ?_) (AllReadyH.cons rfl (fun K hK => ?_) (AllReadyH.nil))
        · have D := Lib.hid (D.out.newB 3)
          go_simp
          refine hK.out _ _ ?_ (fun hH => ?_)
          · exact D.out.1.lessB
          clear hK K
          try simp only [Act.put, List.getElem_toArray, List.getElem_cons_succ, List.getElem_cons_zero, List.setIfInBounds_toArray, List.set_cons_zero, List.set_cons_succ]
          refine wpAnyH_weaken (S' := D.out.S) (fun _ h => SV.lessB h) _ _ _ _ ?_
          have hH := D.out.1
          refine wpAnyH_ready (rs := [10]) (by kernel_rfl) (by simp) ?_
          refine AllReadyH.cons rfl (fun K hK => ?_) (AllReadyH.nil)
          · go_simp
            refine (pickX _ _ 4 _ D.out.2.1 (by omega) (by omega) (by omega)).mono ?_
            rintro e w3 ⟨z, z0, z1, rfl, hr, hg⟩
            have D := Lib.hid (D.out.next hr hg)
            clear hr hg
            refine hK.out _ _ ?_ (fun hH => ?_)
            · exact D.out.1
            clear hK K
            try simp only [Act.put, List.getElem_toArray, List.getElem_cons_succ, List.getElem_cons_zero, List.setIfInBounds_toArray, List.set_cons_zero, List.set_cons_succ]
            refine wpAnyH_take (i := 11) (v := ?_) rfl (by kernel_rfl) (by kernel_rfl) (by kernel_rfl) (fun _ _ _ h => h) (Or.inl ⟨by kernel_rfl, ?_⟩) (by assumption) ?_
            rotate_left
            · (intro W hSw; go_simp; try with_reducible rfl)
            try simp only [Act.put, List.getElem_toArray, List.getElem_cons_succ, List.getElem_cons_zero, List.setIfInBounds_toArray, List.set_cons_zero, List.set_cons_succ]
            refine wpAnyH_take (i := 12) (v := ?_) rfl (by kernel_rfl) (by kernel_rfl) (by kernel_rfl) (fun _ _ _ h => h) (Or.inl ⟨by kernel_rfl, ?_⟩) (by assumption) ?_
            rotate_left
            · (intro W hSw; have u0 := (hSw.2.2 _ rfl).1.at z0 z1; (try simp only [World.size_alloc] at u0); go_simp; try with_reducible rfl)
            try simp only [Act.put, List.getElem_toArray, List.getElem_cons_succ, List.getElem_cons_zero, List.setIfInBounds_toArray, List.set_cons_zero, List.set_cons_succ]
            refine wpAnyH_take (i := 13) (v := ?_) rfl (by kernel_rfl) (by kernel_rfl) (by kernel_rfl) (fun _ _ _ h => h) (Or.inl ⟨by kernel_rfl, ?_⟩) (by assumption) ?_
            rotate_left
            · (intro W hSw; go_simp; try with_reducible rfl)
            try simp only [Act.put, List.getElem_toArray, List.getElem_cons_succ, List.getElem_cons_zero, List.setIfInBounds_toArray, List.set_cons_zero, List.set_cons_succ]
            refine wpAnyH_ready (rs := [14]) (by kernel_rfl) (by simp) ?_
            refine AllReadyH.cons rfl (fun K hK => ?_) AllReadyH.nil
            obtain ⟨p1, a1, v1, hz⟩ := D.out.1.1
            obtain ⟨k0, k1, k2⟩ := cells3 hz.ab
            have f0 := hz.fz 0
            have f1 := hz.fz 1
            have f2 := hz.fz 2
            go_simp
            refine hK.out _ _ ?_ (fun hH => ?_)
            · exact (D.out.fin (x - 1) (tbA y) (tbB z)).2.2
            clear hK K
            try simp only [Act.put, List.getElem_toArray, List.getElem_cons_succ, List.getElem_cons_zero, List.setIfInBounds_toArray, List.set_cons_zero, List.set_cons_succ]
            refine wpAnyH_done (by kernel_rfl) ?_ _
            refine NoPanic.normal ?_
            go_wp2
            refine bodyPost_ret (res_drLV _ rfl (D.out.fin (x - 1) (tbA y) (tbB z)).1) rfl ?_
            exact ⟨x - 1, tbA y, tbB z, rfl, (D.out.fin (x - 1) (tbA y) (tbB z)).2.1⟩
        · go_simp
          refine (pickX _ _ 4 _ D.out.2.1 (by omega) (by omega) (by omega)).mono ?_
          rintro e w3 ⟨z, z0, z1, rfl, hr, hg⟩
          have D := Lib.hid (D.out.next hr hg)
          clear hr hg
          refine hK.out _ _ ?_ (fun hH => ?_)
          · exact D.out.1
          clear hK K
          try simp only [Act.put, List.getElem_toArray, List.getElem_cons_succ, List.getElem_cons_zero, List.setIfInBounds_toArray, List.set_cons_zero, List.set_cons_succ]
          refine wpAnyH_ready (rs := [8]) (by kernel_rfl) (by simp) ?_
          refine AllReadyH.cons rfl (fun K hK => ?_) (AllReadyH.nil)
          · have D := Lib.hid (D.out.newB 3)
            go_simp
            refine hK.out _ _ ?_ (fun hH => ?_)
            · exact D.out.1.lessB
            clear hK K
            try simp only [Act.put, List.getElem_toArray, List.getElem_cons_succ, List.getElem_cons_zero, List.setIfInBounds_toArray, List.set_cons_zero, List.set_cons_succ]
            refine wpAnyH_weaken (S' := D.out.S) (fun _ h => SV.lessB h) _ _ _ _ ?_
            have hH := D.out.1
            refine wpAnyH_take (i := 11) (v := ?_) rfl (by kernel_rfl) (by kernel_rfl) (by kernel_rfl) (fun _ _ _ h => h) (Or.inl ⟨by kernel_rfl, ?_⟩) (by assumption) ?_
            rotate_left
            · (intro W hSw; go_simp; try with_reducible rfl)
            try simp only [Act.put, List.getElem_toArray, List.getElem_cons_succ, List.getElem_cons_zero, List.setIfInBounds_toArray, List.set_cons_zero, List.set_cons_succ]
            refine wpAnyH_take (i := 12) (v := ?_) rfl (by kernel_rfl) (by kernel_rfl) (by kernel_rfl) (fun _ _ _ h => h) (Or.inl ⟨by kernel_rfl, ?_⟩) (by assumption) ?_
            rotate_left
            · (intro W hSw; have u0 := (hSw.2.2 _ rfl).1.at z0 z1; (try simp only [World.size_alloc] at u0); go_simp; try with_reducible rfl)
            try simp only [Act.put, List.getElem_toArray, List.getElem_cons_succ, List.getElem_cons_zero, List.setIfInBounds_toArray, List.set_cons_zero, List.set_cons_succ]
            refine wpAnyH_take (i := 13) (v := ?_) rfl (by kernel_rfl) (by kernel_rfl) (by kernel_rfl) (fun _ _ _ h => h) (Or.inl ⟨by kernel_rfl, ?_⟩) (by assumption) ?_
            rotate_left
            · (intro W hSw; go_simp; try with_reducible rfl)
            try simp only [Act.put, List.getElem_toArray, List.getElem_cons_succ, List.getElem_cons_zero, List.setIfInBounds_toArray, List.set_cons_zero, List.set_cons_succ]
            refine wpAnyH_ready (rs := [14]) (by kernel_rfl) (by simp) ?_
            refine AllReadyH.cons rfl (fun K hK => ?_) AllReadyH.nil
            obtain ⟨p1, a1, v1, hz⟩ := D.out.1.1
            obtain ⟨k0, k1, k2⟩ := cells3 hz.ab
            have f0 := hz.fz 0
            have f1 := hz.fz 1
            have f2 := hz.fz 2
            go_simp
            refine hK.out _ _ ?_ (fun hH => ?_)
            · exact (D.out.fin (x - 1) (tbA y) (tbB z)).2.2
            clear hK K
            try simp only [Act.put, List.getElem_toArray, List.getElem_cons_succ, List.getElem_cons_zero, List.setIfInBounds_toArray, List.set_cons_zero, List.set_cons_succ]
            refine wpAnyH_done (by kernel_rfl) ?_ _
            refine NoPanic.normal ?_
            go_wp2
            refine bodyPost_ret (res_drLV _ rfl (D.out.fin (x - 1) (tbA y) (tbB z)).1) rfl ?_
            exact ⟨x - 1, tbA y, tbB z, rfl, (D.out.fin (x - 1) (tbA y) (tbB z)).2.1⟩
      · have D := Lib.hid (D.out.newB 3)
        go_simp
        refine hK.out _ _ ?_ (fun hH => ?_)
        · exact D.out.1.lessB
        clear hK K
        try simp only [Act.put, List.getElem_toArray, List.getElem_cons_succ, List.getElem_cons_zero, List.setIfInBounds_toArray, List.set_cons_zero, List.set_cons_succ]
        refine wpAnyH_weaken (S' := D.out.S) (fun _ h => SV.lessB h) _ _ _ _ ?_
        have hH := D.out.1
        refine wpAnyH_ready (rs := [5]) (by kernel_rfl) (by simp) ?_
        refine AllReadyH.cons rfl (fun K hK => ?_) (AllReadyH.nil)
        · go_simp
          refine (pickX _ _ 3 _ D.out.2.1 (by omega) (by omega) (by omega)).mono ?_
          rintro e w3 ⟨y, y0, y1, rfl, hr, hg⟩
          have D := Lib.hid (D.out.next hr hg)
          clear hr hg
          refine hK.out _ _ ?_ (fun hH => ?_)
          · exact D.out.1
          clear hK K
          try simp only [Act.put, List.getElem_toArray, List.getElem_cons_succ, List.getElem_cons_zero, List.setIfInBounds_toArray, List.set_cons_zero, List.set_cons_succ]
          refine wpAnyH_take (i := 6) (v := ?_) rfl (by kernel_rfl) (by kernel_rfl) (by kernel_rfl) (fun _ _ _ h => h) (Or.inl ⟨by kernel_rfl, ?_⟩) (by assumption) ?_
          rotate_left
          · (intro W hSw; go_simp; try with_reducible rfl)
          try simp only [Act.put, List.getElem_toArray, List.getElem_cons_succ, List.getElem_cons_zero, List.setIfInBounds_toArray, List.set_cons_zero, List.set_cons_succ]
          refine wpAnyH_take (i := 7) (v := ?_) rfl (by kernel_rfl) (by kernel_rfl) (by kernel_rfl) (fun _ _ _ h => h) (Or.inl ⟨by kernel_rfl, ?_⟩) (by assumption) ?_
          rotate_left
          · (intro W hSw; have u0 := (hSw.2.1 _ rfl).1.at y0 y1; (try simp only [World.size_alloc] at u0); go_simp; try with_reducible rfl)
          try simp only [Act.put, List.getElem_toArray, List.getElem_cons_succ, List.getElem_cons_zero, List.setIfInBounds_toArray, List.set_cons_zero, List.set_cons_succ]
          refine wpAnyH_ready (rs := [10]) (by kernel_rfl) (by simp) ?_
          refine AllReadyH.cons rfl (fun K hK => ?_) (AllReadyH.nil)
          · go_simp
            refine (pickX _ _ 4 _ D.out.2.1 (by omega) (by omega) (by omega)).mono ?_
            rintro e w3 ⟨z, z0, z1, rfl, hr, hg⟩
            have D := Lib.hid (D.out.next hr hg)
            clear hr hg
            refine hK.out _ _ ?_ (fun hH => ?_)
            · exact D.out.1
            clear hK K
            try simp only [Act.put, List.getElem_toArray, List.getElem_cons_succ, List.getElem_cons_zero, List.setIfInBounds_toArray, List.set_cons_zero, List.set_cons_succ]
            refine wpAnyH_take (i := 11) (v := ?_) rfl (by kernel_rfl) (by kernel_rfl) (by kernel_rfl) (fun _ _ _ h => h) (Or.inl ⟨by kernel_rfl, ?_⟩) (by assumption) ?_
            rotate_left
            · (intro W hSw; go_simp; try with_reducible rfl)
            try simp only [Act.put, List.getElem_toArray, List.getElem_cons_succ, List.getElem_cons_zero, List.setIfInBounds_toArray, List.set_cons_zero, List.set_cons_succ]
            refine wpAnyH_take (i := 12) (v := ?_) rfl (by kernel_rfl) (by kernel_rfl) (by kernel_rfl) (fun _ _ _ h => h) (Or.inl ⟨by kernel_rfl, ?_⟩) (by assumption) ?_
            rotate_left
            · (intro W hSw; have u0 := (hSw.2.2 _ rfl).1.at z0 z1; (try simp only [World.size_alloc] at u0); go_simp; try with_reducible rfl)
            try simp only [Act.put, List.getElem_toArray, List.getElem_cons_succ, List.getElem_cons_zero, List.setIfInBounds_toArray, List.set_cons_zero, List.set_cons_succ]
            refine wpAnyH_take (i := 13) (v := ?_) rfl (by kernel_rfl) (by kernel_rfl) (by kernel_rfl) (fun _ _ _ h => h) (Or.inl ⟨by kernel_rfl, ?_⟩) (by assumption) ?_
            rotate_left
            · (intro W hSw; go_simp; try with_reducible rfl)
            try simp only [Act.put, List.getElem_toArray, List.getElem_cons_succ, List.getElem_cons_zero, List.setIfInBounds_toArray, List.set_cons_zero, List.set_cons_succ]
            refine wpAnyH_ready (rs := [14]) (by kernel_rfl) (by simp) ?_
            refine AllReadyH.cons rfl (fun K hK => ?_) AllReadyH.nil
            obtain ⟨p1, a1, v1, hz⟩ := D.out.1.1
            obtain ⟨k0, k1, k2⟩ := cells3 hz.ab
            have f0 := hz.fz 0
            have f1 := hz.fz 1
            have f2 := hz.fz 2
            go_simp
            refine hK.out _ _ ?_ (fun hH => ?_)
            · exact (D.out.fin (x - 1) (tbA y) (tbB z)).2.2
            clear hK K
            try simp only [Act.put, List.getElem_toArray, List.getElem_cons_succ, List.getElem_cons_zero, List.setIfInBounds_toArray, List.set_cons_zero, List.set_cons_succ]
            refine wpAnyH_done (by kernel_rfl) ?_ _
            refine NoPanic.normal ?_
            go_wp2
            refine bodyPost_ret (res_drLV _ rfl (D.out.fin (x - 1) (tbA y) (tbB z)).1) rfl ?_
            exact ⟨x - 1, tbA y, tbB z, rfl, (D.out.fin (x - 1) (tbA y) (tbB z)).2.1⟩
    · have D := Lib.hid (D.out.newB 3)
      go_simp
      refine hK.out _ _ ?_ (fun hH => ?_)
      · exact D.out.1.lessB
      clear hK K
      try simp only [Act.put, List.getElem_toArray, List.getElem_cons_succ, List.getElem_cons_zero, List.setIfInBounds_toArray, List.set_cons_zero, List.set_cons_succ]
      refine wpAnyH_weaken (S' := D.out.S) (fun _ h => SV.lessB h) _ _ _ _ ?_
      have hH := D.out.1
      refine wpAnyH_ready (rs := [1]) (by kernel_rfl) (by simp) ?_
      refine AllReadyH.cons rfl (fun K hK => ?_) (AllReadyH.nil)
      · go_simp
        refine (pickX _ _ 9 _ D.out.2.1 (by omega) (by omega) (by omega)).mono ?_
        rintro e w3 ⟨x, x0, x1, rfl, hr, hg⟩
        have D := Lib.hid (D.out.next hr hg)
        clear hr hg
        have wx : IntKind.i64.wrap (x - 1) = x - 1 := IntWalk.i64_in _ (by omega)
        refine hK.out _ _ ?_ (fun hH => ?_)
        · exact D.out.1
        clear hK K
        try simp only [Act.put, List.getElem_toArray, List.getElem_cons_succ, List.getElem_cons_zero, List.setIfInBounds_toArray, List.set_cons_zero, List.set_cons_succ]
        refine wpAnyH_take (i := 2) (v := ?_) rfl (by kernel_rfl) (by kernel_rfl) (by kernel_rfl) (fun _ _ _ h => h) (Or.inl ⟨by kernel_rfl, ?_⟩) (by assumption) ?_
        rotate_left
        · (intro W hSw; go_simp; try with_reducible rfl)
        try simp only [Act.put, List.getElem_toArray, List.getElem_cons_succ, List.getElem_cons_zero, List.setIfInBounds_toArray, List.set_cons_zero, List.set_cons_succ]
        refine wpAnyH_ready (rs := [5]) (by kernel_rfl) (by simp) ?_
        refine AllReadyH.cons rfl (fun K hK => ?_) (AllReadyH.nil)
        · go_simp
          refine (pickX _ _ 3 _ D.out.2.1 (by omega) (by omega) (by omega)).mono ?_
          rintro e w3 ⟨y, y0, y1, rfl, hr, hg⟩
          have D := Lib.hid (D.out.next hr hg)
          clear hr hg
          refine hK.out _ _ ?_ (fun hH => ?_)
          · exact D.out.1
          clear hK K
          try simp only [Act.put, List.getElem_toArray, List.getElem_cons_succ, List.getElem_cons_zero, List.setIfInBounds_toArray, List.set_cons_zero, List.set_cons_succ]
          refine wpAnyH_take (i := 6) (v := ?_) rfl (by kernel_rfl) (by kernel_rfl) (by kernel_rfl) (fun _ _ _ h => h) (Or.inl ⟨by kernel_rfl, ?_⟩) (by assumption) ?_
          rotate_left
          · (intro W hSw; go_simp; try with_reducible rfl)
          try simp only [Act.put, List.getElem_toArray, List.getElem_cons_succ, List.getElem_cons_zero, List.setIfInBounds_toArray, List.set_cons_zero, List.set_cons_succ]
          refine wpAnyH_take (i := 7) (v := ?_) rfl (by kernel_rfl) (by kernel_rfl) (by kernel_rfl) (fun _ _ _ h => h) (Or.inl ⟨by kernel_rfl, ?_⟩) (by assumption) ?_
          rotate_left
          · (intro W hSw; have u0 := (hSw.2.1 _ rfl).1.at y0 y1; (try simp only [World.size_alloc] at u0); go_simp; try with_reducible rfl)
          try simp only [Act.put, List.getElem_toArray, List.getElem_cons_succ, List.getElem_cons_zero, List.setIfInBounds_toArray, List.set_cons_zero, List.set_cons_succ]
          refine wpAnyH_ready (rs := [10]) (by kernel_rfl) (by simp) ?_
          refine AllReadyH.cons rfl (fun K hK => ?_) (AllReadyH.nil)
          · go_simp
            refine (pickX _ _ 4 _ D.out.2.1 (by omega) (by omega) (by omega)).mono ?_
            rintro e w3 ⟨z, z0, z1, rfl, hr, hg⟩
            have D := Lib.hid (D.out.next hr hg)
            clear hr hg
            refine hK.out _ _ ?_ (fun hH => ?_)
            · exact D.out.1
            clear hK K
            try simp only [Act.put, List.getElem_toArray, List.getElem_cons_succ, List.getElem_cons_zero, List.setIfInBounds_toArray, List.set_cons_zero, List.set_cons_succ]
            refine wpAnyH_take (i := 11) (v := ?_) rfl (by kernel_rfl) (by kernel_rfl) (by kernel_rfl) (fun _ _ _ h => h) (Or.inl ⟨by kernel_rfl, ?_⟩) (by assumption) ?_
            rotate_left
            · (intro W hSw; go_simp; try with_reducible rfl)
            try simp only [Act.put, List.getElem_toArray, List.getElem_cons_succ, List.getElem_cons_zero, List.setIfInBounds_toArray, List.set_cons_zero, List.set_cons_succ]
            refine wpAnyH_take (i := 12) (v := ?_) rfl (by kernel_rfl) (by kernel_rfl) (by kernel_rfl) (fun _ _ _ h => h) (Or.inl ⟨by kernel_rfl, ?_⟩) (by assumption) ?_
            rotate_left
            · (intro W hSw; have u0 := (hSw.2.2 _ rfl).1.at z0 z1; (try simp only [World.size_alloc] at u0); go_simp; try with_reducible rfl)
            try simp only [Act.put, List.getElem_toArray, List.getElem_cons_succ, List.getElem_cons_zero, List.setIfInBounds_toArray, List.set_cons_zero, List.set_cons_succ]
            refine wpAnyH_take (i := 13) (v := ?_) rfl (by kernel_rfl) (by kernel_rfl) (by kernel_rfl) (fun _ _ _ h => h) (Or.inl ⟨by kernel_rfl, ?_⟩) (by assumption) ?_
            rotate_left
            · (intro W hSw; go_simp; try with_reducible rfl)
            try simp only [Act.put, List.getElem_toArray, List.getElem_cons_succ, List.getElem_cons_zero, List.setIfInBounds_toArray, List.set_cons_zero, List.set_cons_succ]
            refine wpAnyH_ready (rs := [14]) (by kernel_rfl) (by simp) ?_
            refine AllReadyH.cons rfl (fun K hK => ?_) AllReadyH.nil
            obtain ⟨p1, a1, v1, hz⟩ := D.out.1.1
            obtain ⟨k0, k1, k2⟩ := cells3 hz.ab
            have f0 := hz.fz 0
            have f1 := hz.fz 1
            have f2 := hz.fz 2
            go_simp
            refine hK.out _ _ ?_ (fun hH => ?_)
            · exact (D.out.fin (x - 1) (tbA y) (tbB z)).2.2
            clear hK K
            try simp only [Act.put, List.getElem_toArray, List.getElem_cons_succ, List.getElem_cons_zero, List.setIfInBounds_toArray, List.set_cons_zero, List.set_cons_succ]
            refine wpAnyH_done (by kernel_rfl) ?_ _
            refine NoPanic.normal ?_
            go_wp2
            refine bodyPost_ret (res_drLV _ rfl (D.out.fin (x - 1) (tbA y) (tbB z)).1) rfl ?_
            exact ⟨x - 1, tbA y, tbB z, rfl, (D.out.fin (x - 1) (tbA y) (tbB z)).2.1⟩
  · have D := Lib.hid (D.out.newB 3)
    go_simp
    refine hK.out _ _ ?_ (fun hH => ?_)
    · exact D.out.1.lessB
    clear hK K
    try simp only [Act.put, List.getElem_toArray, List.getElem_cons_succ, List.getElem_cons_zero, List.setIfInBounds_toArray, List.set_cons_zero, List.set_cons_succ]
    refine wpAnyH_weaken (S' := D.out.S) (fun _ h => SV.lessB h) _ _ _ _ ?_
    have hH := D.out.1
    refine wpAnyH_ready (rs := [1, 3]) (by kernel_rfl) (by simp) ?_
    refine AllReadyH.cons rfl (fun K hK => ?_) (AllReadyH.cons rfl (fun K hK => ?_) (AllReadyH.nil))
    · go_simp
      refine (pickX _ _ 9 _ D.out.2.1 (by omega) (by omega) (by omega)).mono ?_
      rintro e w3 ⟨x, x0, x1, rfl, hr, hg⟩
      have D := Lib.hid (D.out.next hr hg)
      clear hr hg
      have wx : IntKind.i64.wrap (x - 1) = x - 1 := IntWalk.i64_in _ (by omega)
      refine hK.out _ _ ?_ (fun hH => ?_)
      · exact D.out.1
      clear hK K
      try simp only [Act.put, List.getElem_toArray, List.getElem_cons_succ, List.getElem_cons_zero, List.setIfInBounds_toArray, List.set_cons_zero, List.set_cons_succ]
      refine wpAnyH_take (i := 2) (v := ?_) rfl (by kernel_rfl) (by kernel_rfl) (by kernel_rfl) (fun _ _ _ h => h) (Or.inl ⟨by kernel_rfl, ?_⟩) (by assumption) ?_
      rotate_left
      · (intro W hSw; go_simp; try with_reducible rfl)
      try simp only [Act.put, List.getElem_toArray, List.getElem_cons_succ, List.getElem_cons_zero, List.setIfInBounds_toArray, List.set_cons_zero, List.set_cons_succ]
      refine wpAnyH_ready (rs := [3, 5]) (by kernel_rfl) (by simp) ?_
      refine AllReadyH.cons rfl (fun K hK => ?_) (AllReadyH.cons rfl (fun K hK => ?_) (AllReadyH.nil))
      · have D := Lib.hid (D.out.newA 3)
        go_simp
        refine hK.out _ _ ?_ (fun hH => ?_)
        · exact D.out.1.lessA
        clear hK K
        try simp only [Act.put, List.getElem_toArray, List.getElem_cons_succ, List.getElem_cons_zero, List.setIfInBounds_toArray, List.set_cons_zero, List.set_cons_succ]
        refine wpAnyH_weaken (S' := D.out.S) (fun _ h => SV.lessA h) _ _ _ _ ?_
        have hH := D.out.1
        refine wpAnyH_ready (rs := [5]) (by kernel_rfl) (by simp) ?_
        refine AllReadyH.cons rfl (fun K hK => ?_) (AllReadyH.nil)
        · go_simp
          refine (pickX _ _ 3 _ D.out.2.1 (by omega) (by omega) (by omega)).mono ?_
          rintro e w3 ⟨y, y0, y1, rfl, hr, hg⟩
          have D := Lib.hid (D.out.next hr hg)
          clear hr hg
          refine hK.out _ _ ?_ (fun hH => ?_)
          · exact D.out.1
          clear hK K
          try simp only [Act.put, List.getElem_toArray, List.getElem_cons_succ, List.getElem_cons_zero, List.setIfInBounds_toArray, List.set_cons_zero, List.set_cons_succ]
          refine wpAnyH_take (i := 6) (v := ?_) rfl (by kernel_rfl) (by kernel_rfl) (by kernel_rfl) (fun _ _ _ h => h) (Or.inl ⟨by kernel_rfl, ?_⟩) (by assumption) ?_
          rotate_left
          · (intro W hSw; go_simp; try with_reducible rfl)
          try simp only [Act.put, List.getElem_toArray, List.getElem_cons_succ, List.getElem_cons_zero, List.setIfInBounds_toArray, List.set_cons_zero, List.set_cons_succ]
          refine wpAnyH_take (i := 7) (v := ?_) rfl (by kernel_rfl) (by kernel_rfl) (by kernel_rfl) (fun _ _ _ h => h) (Or.inl ⟨by kernel_rfl, ?_⟩) (by assumption) ?_
          rotate_left
          · (intro W hSw; have u0 := (hSw.2.1 _ rfl).1.at y0 y1; (try simp only [World.size_alloc] at u0); go_simp; try with_reducible rfl)
          try simp only [Act.put, List.getElem_toArray, List.getElem_cons_succ, List.getElem_cons_zero, List.setIfInBounds_toArray, List.set_cons_zero, List.set_cons_succ]
          refine wpAnyH_ready (rs := [10]) (by kernel_rfl) (by simp) ?_
          refine AllReadyH.cons rfl (fun K hK => ?_) (AllReadyH.nil)
          · go_simp
            refine (pickX _ _ 4 _ D.out.2.1 (by omega) (by omega) (by omega)).mono ?_
            rintro e w3 ⟨z, z0, z1, rfl, hr, hg⟩
            have D := Lib.hid (D.out.next hr hg)
            clear hr hg
            refine hK.out _ _ ?_ (fun hH => ?_)
            · exact D.out.1
            clear hK K
            try simp only [Act.put, List.getElem_toArray, List.getElem_cons_succ, List.getElem_cons_zero, List.setIfInBounds_toArray, List.set_cons_zero, List.set_cons_succ]
            refine wpAnyH_take (i := 11) (v := ?_) rfl (by kernel_rfl) (by kernel_rfl) (by kernel_rfl) (fun _ _ _ h => h) (Or.inl ⟨by kernel_rfl, ?_⟩) (by assumption) ?_
            rotate_left
            · (intro W hSw; go_simp; try with_reducible rfl)
            try simp only [Act.put, List.getElem_toArray, List.getElem_cons_succ, List.getElem_cons_zero, List.setIfInBounds_toArray, List.set_cons_zero, List.set_cons_succ]
            refine wpAnyH_take (i := 12) (v := ?_) rfl (by kernel_rfl) (by kernel_rfl) (by kernel_rfl) (fun _ _ _ h => h) (Or.inl ⟨by kernel_rfl, ?_⟩) (by assumption) ?_
            rotate_left
            · (intro W hSw; have u0 := (hSw.2.2 _ rfl).1.at z0 z1; (try simp only [World.size_alloc] at u0); go_simp; try with_reducible rfl)
            try simp only [Act.put, List.getElem_toArray, List.getElem_cons_succ, List.getElem_cons_zero, List.setIfInBounds_toArray, List.set_cons_zero, List.set_cons_succ]
            refine wpAnyH_take (i := 13) (v := ?_) rfl (by kernel_rfl) (by kernel_rfl) (by kernel_rfl) (fun _ _ _ h => h) (Or.inl ⟨by kernel_rfl, ?_⟩) (by assumption) ?_
            rotate_left
            · (intro W hSw; go_simp; try with_reducible rfl)
            try simp only [Act.put, List.getElem_toArray, List.getElem_cons_succ, List.getElem_cons_zero, List.setIfInBounds_toArray, List.set_cons_zero, List.set_cons_succ]
            refine wpAnyH_ready (rs := [14]) (by kernel_rfl) (by simp) ?_
            refine AllReadyH.cons rfl (fun K hK => ?_) AllReadyH.nil
            obtain ⟨p1, a1, v1, hz⟩ := D.out.1.1
            obtain ⟨k0, k1, k2⟩ := cells3 hz.ab
            have f0 := hz.fz 0
            have f1 := hz.fz 1
            have f2 := hz.fz 2
            go_simp
            refine hK.out _ _ ?_ (fun hH => ?_)
            · exact (D.out.fin (x - 1) (tbA y) (tbB z)).2.2
            clear hK K
            try simp only [Act.put, List.getElem_toArray, List.getElem_cons_succ, List.getElem_cons_zero, List.setIfInBounds_toArray, List.set_cons_zero, List.set_cons_succ]
            refine wpAnyH_done (by kernel_rfl) ?_ _
            refine NoPanic.normal ?_
            go_wp2
            refine bodyPost_ret (res_drLV _ rfl (D.out.fin (x - 1) (tbA y) (tbB z)).1) rfl ?_
            exact ⟨x - 1, tbA y, tbB z, rfl, (D.out.fin (x - 1) (tbA y) (tbB z)).2.1⟩
      · go_simp
        refine (pickX _ _ 3 _ D.out.2.1 (by omega) (by omega) (by omega)).mono ?_
        rintro e w3 ⟨y, y0, y1, rfl, hr, hg⟩
        have D := Lib.hid (D.out.next hr hg)
        clear hr hg
        refine hK.out _ _ ?_ (fun hH => ?_)
        · exact D.out.1
        clear hK K
        try simp only [Act.put, List.getElem_toArray, List.getElem_cons_succ, List.getElem_cons_zero, List.setIfInBounds_toArray, List.set_cons_zero, List.set_cons_succ]
        refine wpAnyH_ready (rs := [3, 10]) (by kernel_rfl) (by simp) ?_
        refine AllReadyH.cons rfl (fun K hK => ?_) (AllReadyH.cons rfl (fun K hK => ?_) (AllReadyH.nil))
        · have D := Lib.hid (D.out.newA 3)
          go_simp
          refine hK.out _ _ ?_ (fun hH => ?_)
          · exact D.out.1.lessA
          clear hK K
          try simp only [Act.put, List.getElem_toArray, List.getElem_cons_succ, List.getElem_cons_zero, List.setIfInBounds_toArray, List.set_cons_zero, List.set_cons_succ]
          refine wpAnyH_weaken (S' := D.out.S) (fun _ h => SV.lessA h) _ _ _ _ ?_
          have hH := D.out.1
          refine wpAnyH_take (i := 6) (v := ?_) rfl (by kernel_rfl) (by kernel_rfl) (by kernel_rfl) (fun _ _ _ h => h) (Or.inl ⟨by kernel_rfl, ?_⟩) (by assumption) ?_
          rotate_left
          · (intro W hSw; go_simp; try with_reducible rfl)
          try simp only [Act.put, List.getElem_toArray, List.getElem_cons_succ, List.getElem_cons_zero, List.setIfInBounds_toArray, List.set_cons_zero, List.set_cons_succ]
          refine wpAnyH_take (i := 7) (v := ?_) rfl (by kernel_rfl) (by kernel_rfl) (by kernel_rfl) (fun _ _ _ h => h) (Or.inl ⟨by kernel_rfl, ?_⟩) (by assumption) ?_
          rotate_left
          · (intro W hSw; have u0 := (hSw.2.1 _ rfl).1.at y0 y1; (try simp only [World.size_alloc] at u0); go_simp; try with_reducible rfl)
          try simp only [Act.put, List.getElem_toArray, List.getElem_cons_succ, List.getElem_cons_zero, List.setIfInBounds_toArray, List.set_cons_zero, List.set_cons_succ]
          refine wpAnyH_ready (rs := [10]) (by kernel_rfl) (by simp) ?_
          refine AllReadyH.cons rfl (fun K hK => ?_) (AllReadyH.nil)
          · go_simp
            refine (pickX _ _ 4 _ D.out.2.1 (by omega) (by omega) (by omega)).mono ?_
            rintro e w3 ⟨z, z0, z1, rfl, hr, hg⟩
            have D := Lib.hid (D.out.next hr hg)
            clear hr hg
            refine hK.out _ _ ?_ (fun hH => ?_)
            · exact D.out.1
            clear hK K
            try simp only [Act.put, List.getElem_toArray, List.getElem_cons_succ, List.getElem_cons_zero, List.setIfInBounds_toArray, List.set_cons_zero, List.set_cons_succ]
            refine wpAnyH_take (i := 11) (v := ?_) rfl (by kernel_rfl) (by kernel_rfl) (by kernel_rfl) (fun _ _ _ h => h) (Or.inl ⟨by kernel_rfl, ?_⟩) (by assumption) ?_
            rotate_left
            · (intro W hSw; go_simp; try with_reducible rfl)
            try simp only [Act.put, List.getElem_toArray, List.getElem_cons_succ, List.getElem_cons_zero, List.setIfInBounds_toArray, List.set_cons_zero, List.set_cons_succ]
            refine wpAnyH_take (i := 12) (v := ?_) rfl (by kernel_rfl) (by kernel_rfl) (by kernel_rfl) (fun _ _ _ h => h) (Or.inl ⟨by kernel_rfl, ?_⟩) (by assumption) ?_
            rotate_left
            · (intro W hSw; have u0 := (hSw.2.2 _ rfl).1.at z0 z1; (try simp only [World.size_alloc] at u0); go_simp; try with_reducible rfl)
            try simp only [Act.put, List.getElem_toArray, List.getElem_cons_succ, List.getElem_cons_zero, List.setIfInBounds_toArray, List.set_cons_zero, List.set_cons_succ]
            refine wpAnyH_take (i := 13) (v := ?_) rfl (by kernel_rfl) (by kernel_rfl) (by kernel_rfl) (fun _ _ _ h => h) (Or.inl ⟨by kernel_rfl, ?_⟩) (by assumption) ?_
            rotate_left
            · (intro W hSw; go_simp; try with_reducible rfl)
            try simp only [Act.put, List.getElem_toArray, List.getElem_cons_succ, List.getElem_cons_zero, List.setIfInBounds_toArray, List.set_cons_zero, List.set_cons_succ]
            refine wpAnyH_ready (rs := [14]) (by kernel_rfl) (by simp) ?_
            refine AllReadyH.cons rfl (fun K hK => ?_) AllReadyH.nil
            obtain ⟨p1, a1, v1, hz⟩ := D.out.1.1
            obtain ⟨k0, k1, k2⟩ := cells3 hz.ab
            have f0 := hz.fz 0
            have f1 := hz.fz 1
            have f2 := hz.fz 2
            go_simp
            refine hK.out _ _ ?_ (fun hH => ?_)
            · exact (D.out.fin (x - 1) (tbA y) (tbB z)).2.2
            clear hK K
            try simp only [Act.put, List.getElem_toArray, List.getElem_cons_succ, List.getElem_cons_zero, List.setIfInBounds_toArray, List.set_cons_zero, List.set_cons_succ]
            refine wpAnyH_done (by kernel_rfl) ?_ _
            refine NoPanic.normal ?_
            go_wp2
            refine bodyPost_ret (res_drLV _ rfl (D.out.fin (x - 1) (tbA y) (tbB z)).1) rfl ?_
            exact ⟨x - 1, tbA y, tbB z, rfl, (D.out.fin (x - 1) (tbA y) (tbB z)).2.1⟩
        · go_simp
          refine (pickX _ _ 4 _ D.out.2.1 (by omega) (by omega) (by omega)).mono ?_
          rintro e w3 ⟨z, z0, z1, rfl, hr, hg⟩
          have D := Lib.hid (D.out.next hr hg)
          clear hr hg
          refine hK.out _ _ ?_ (fun hH => ?_)
          · exact D.out.1
          clear hK K
          try simp only [Act.put, List.getElem_toArray, List.getElem_cons_succ, List.getElem_cons_zero, List.setIfInBounds_toArray, List.set_cons_zero, List.set_cons_succ]
          refine wpAnyH_take (i := 11) (v := ?_) rfl (by kernel_rfl) (by kernel_rfl) (by kernel_rfl) (fun _ _ _ h => h) (Or.inl ⟨by kernel_rfl, ?_⟩) (by assumption) ?_
          rotate_left
          · (intro W hSw; go_simp; try with_reducible rfl)
          try simp only [Act.put, List.getElem_toArray, List.getElem_cons_succ, List.getElem_cons_zero, List.setIfInBounds_toArray, List.set_cons_zero, List.set_cons_succ]
          refine wpAnyH_take (i := 12) (v := ?_) rfl (by kernel_rfl) (by kernel_rfl) (by kernel_rfl) (fun _ _ _ h => h) (Or.inl ⟨by kernel_rfl, ?_⟩) (by assumption) ?_
          rotate_left
          · (intro W hSw; have u0 := (hSw.2.2 _ rfl).1.at z0 z1; (try simp only [World.size_alloc] at u0); go_simp; try with_reducible rfl)
          try simp only [Act.put, List.getElem_toArray, List.getElem_cons_succ, List.getElem_cons_zero, List.setIfInBounds_toArray, List.set_cons_zero, List.set_cons_succ]
          refine wpAnyH_ready (rs := [3]) (by kernel_rfl) (by simp) ?_
          refine AllReadyH.cons rfl (fun K hK => ?_) (AllReadyH.nil)
          · have D := Lib.hid (D.out.newA 3)
            go_simp
            refine hK.out _ _ ?_ (fun hH => ?_)
            · exact D.out.1.lessA
            clear hK K
            try simp only [Act.put, List.getElem_toArray, List.getElem_cons_succ, List.getElem_cons_zero, List.setIfInBounds_toArray, List.set_cons_zero, List.set_cons_succ]
            refine wpAnyH_weaken (S' := D.out.S) (fun _ h => SV.lessA h) _ _ _ _ ?_
            have hH := D.out.1
            refine wpAnyH_take (i := 6) (v := ?_) rfl (by kernel_rfl) (by kernel_rfl) (by kernel_rfl) (fun _ _ _ h => h) (Or.inl ⟨by kernel_rfl, ?_⟩) (by assumption) ?_
            rotate_left
            · (intro W hSw; go_simp; try with_reducible rfl)
            try simp only [Act.put, List.getElem_toArray, List.getElem_cons_succ, List.getElem_cons_zero, List.setIfInBounds_toArray, List.set_cons_zero, List.set_cons_succ]
            refine wpAnyH_take (i := 7) (v := ?_) rfl (by kernel_rfl) (by kernel_rfl) (by kernel_rfl) (fun _ _ _ h => h) (Or.inl ⟨by kernel_rfl, ?_⟩) (by assumption) ?_
            rotate_left
            · (intro W hSw; have u0 := (hSw.2.1 _ rfl).1.at y0 y1; (try simp only [World.size_alloc] at u0); go_simp; try with_reducible rfl)
            try simp only [Act.put, List.getElem_toArray, List.getElem_cons_succ, List.getElem_cons_zero, List.setIfInBounds_toArray, List.set_cons_zero, List.set_cons_succ]
            refine wpAnyH_take (i := 13) (v := ?_) rfl (by kernel_rfl) (by kernel_rfl) (by kernel_rfl) (fun _ _ _ h => h) (Or.inl ⟨by kernel_rfl, ?_⟩) (by assumption) ?_
            rotate_left
            · (intro W hSw; go_simp; try with_reducible rfl)
            try simp only [Act.put, List.getElem_toArray, List.getElem_cons_succ, List.getElem_cons_zero, List.setIfInBounds_toArray, List.set_cons_zero, List.set_cons_succ]
            refine wpAnyH_ready (rs := [14]) (by kernel_rfl) (by simp) ?_
            refine AllReadyH.cons rfl (fun K hK => ?_) AllReadyH.nil
            obtain ⟨p1, a1, v1, hz⟩ := D.out.1.1
            obtain ⟨k0, k1, k2⟩ := cells3 hz.ab
            have f0 := hz.fz 0
            have f1 := hz.fz 1
            have f2 := hz.fz 2
            go_simp
            refine hK.out _ _ ?_ (fun hH => ?_)
            · exact (D.out.fin (x - 1) (tbA y) (tbB z)).2.2
            clear hK K
            try simp only [Act.put, List.getElem_toArray, List.getElem_cons_succ, List.getElem_cons_zero, List.setIfInBounds_toArray, List.set_cons_zero, List.set_cons_succ]
            refine wpAnyH_done (by kernel_rfl) ?_ _
            refine NoPanic.normal ?_
            go_wp2
            refine bodyPost_ret (res_drLV _ rfl (D.out.fin (x - 1) (tbA y) (tbB z)).1) rfl ?_
            exact ⟨x - 1, tbA y, tbB z, rfl, (D.out.fin (x - 1) (tbA y) (tbB z)).2.1⟩
    · have D := Lib.hid (D.out.newA 3)
      go_simp
      refine hK.out _ _ ?_ (fun hH => ?_)
      · exact D.out.1.lessA
      clear hK K
      try simp only [Act.put, List.getElem_toArray, List.getElem_cons_succ, List.getElem_cons_zero, List.setIfInBounds_toArray, List.set_cons_zero, List.set_cons_succ]
      refine wpAnyH_weaken (S' := D.out.S) (fun _ h => SV.lessA h) _ _ _ _ ?_
      have hH := D.out.1
      refine wpAnyH_ready (rs := [1]) (by kernel_rfl) (by simp) ?_
      refine AllReadyH.cons rfl (fun K hK => ?_) (AllReadyH.nil)
      · go_simp
        refine (pickX _ _ 9 _ D.out.2.1 (by omega) (by omega) (by omega)).mono ?_
        rintro e w3 ⟨x, x0, x1, rfl, hr, hg⟩
        have D := Lib.hid (D.out.next hr hg)
        clear hr hg
        have wx : IntKind.i64.wrap (x - 1) = x - 1 := IntWalk.i64_in _ (by omega)
        refine hK.out _ _ ?_ (fun hH => ?_)
        · exact D.out.1
        clear hK K
        try simp only [Act.put, List.getElem_toArray, List.getElem_cons_succ, List.getElem_cons_zero, List.setIfInBounds_toArray, List.set_cons_zero, List.set_cons_succ]
        refine wpAnyH_take (i := 2) (v := ?_) rfl (by kernel_rfl) (by kernel_rfl) (by kernel_rfl) (fun _ _ _ h => h) (Or.inl ⟨by kernel_rfl, ?_⟩) (by assumption) ?_
        rotate_left
        · (intro W hSw; go_simp; try with_reducible rfl)
        try simp only [Act.put, List.getElem_toArray, List.getElem_cons_succ, List.getElem_cons_zero, List.setIfInBounds_toArray, List.set_cons_zero, List.set_cons_succ]
        refine wpAnyH_ready (rs := [5]) (by kernel_rfl) (by simp) ?_
        refine AllReadyH.cons rfl (fun K hK => ?_) (AllReadyH.nil)
        · go_simp
          refine (pickX _ _ 3 _ D.out.2.1 (by omega) (by omega) (by omega)).mono ?_
          rintro e w3 ⟨y, y0, y1, rfl, hr, hg⟩
          have D := Lib.hid (D.out.next hr hg)
          clear hr hg
          refine hK.out _ _ ?_ (fun hH => ?_)
          · exact D.out.1
          clear hK K
          try simp only [Act.put, List.getElem_toArray, List.getElem_cons_succ, List.getElem_cons_zero, List.setIfInBounds_toArray, List.set_cons_zero, List.set_cons_succ]
          refine wpAnyH_take (i := 6) (v := ?_) rfl (by kernel_rfl) (by kernel_rfl) (by kernel_rfl) (fun _ _ _ h => h) (Or.inl ⟨by kernel_rfl, ?_⟩) (by assumption) ?_
          rotate_left
          · (intro W hSw; go_simp; try with_reducible rfl)
          try simp only [Act.put, List.getElem_toArray, List.getElem_cons_succ, List.getElem_cons_zero, List.setIfInBounds_toArray, List.set_cons_zero, List.set_cons_succ]
          refine wpAnyH_take (i := 7) (v := ?_) rfl (by kernel_rfl) (by kernel_rfl) (by kernel_rfl) (fun _ _ _ h => h) (Or.inl ⟨by kernel_rfl, ?_⟩) (by assumption) ?_
          rotate_left
          · (intro W hSw; have u0 := (hSw.2.1 _ rfl).1.at y0 y1; (try simp only [World.size_alloc] at u0); go_simp; try with_reducible rfl)
          try simp only [Act.put, List.getElem_toArray, List.getElem_cons_succ, List.getElem_cons_zero, List.setIfInBounds_toArray, List.set_cons_zero, List.set_cons_succ]
          refine wpAnyH_ready (rs := [10]) (by kernel_rfl) (by simp) ?_
          refine AllReadyH.cons rfl (fun K hK => ?_) (AllReadyH.nil)
          · go_simp
            refine (pickX _ _ 4 _ D.out.2.1 (by omega) (by omega) (by omega)).mono ?_
            rintro e w3 ⟨z, z0, z1, rfl, hr, hg⟩
            have D := Lib.hid (D.out.next hr hg)
            clear hr hg
            refine hK.out _ _ ?_ (fun hH => ?_)
            · exact D.out.1
            clear hK K
            try simp only [Act.put, List.getElem_toArray, List.getElem_cons_succ, List.getElem_cons_zero, List.setIfInBounds_toArray, List.set_cons_zero, List.set_cons_succ]
            refine wpAnyH_take (i := 11) (v := ?_) rfl (by kernel_rfl) (by kernel_rfl) (by kernel_rfl) (fun _ _ _ h => h) (Or.inl ⟨by kernel_rfl, ?_⟩) (by assumption) ?_
            rotate_left
            · (intro W hSw; go_simp; try with_reducible rfl)
            try simp only [Act.put, List.getElem_toArray, List.getElem_cons_succ, List.getElem_cons_zero, List.setIfInBounds_toArray, List.set_cons_zero, List.set_cons_succ]
            refine wpAnyH_take (i := 12) (v := ?_) rfl (by kernel_rfl) (by kernel_rfl) (by kernel_rfl) (fun _ _ _ h => h) (Or.inl ⟨by kernel_rfl, ?_⟩) (by assumption) ?_
            rotate_left
            · (intro W hSw; have u0 := (hSw.2.2 _ rfl).1.at z0 z1; (try simp only [World.size_alloc] at u0); go_simp; try with_reducible rfl)
            try simp only [Act.put, List.getElem_toArray, List.getElem_cons_succ, List.getElem_cons_zero, List.setIfInBounds_toArray, List.set_cons_zero, List.set_cons_succ]
            refine wpAnyH_take (i := 13) (v := ?_) rfl (by kernel_rfl) (by kernel_rfl) (by kernel_rfl) (fun _ _ _ h => h) (Or.inl ⟨by kernel_rfl, ?_⟩) (by assumption) ?_
            rotate_left
            · (intro W hSw; go_simp; try with_reducible rfl)
            try simp only [Act.put, List.getElem_toArray, List.getElem_cons_succ, List.getElem_cons_zero, List.setIfInBounds_toArray, List.set_cons_zero, List.set_cons_succ]
            refine wpAnyH_ready (rs := [14]) (by kernel_rfl) (by simp) ?_
            refine AllReadyH.cons rfl (fun K hK => ?_) AllReadyH.nil
            obtain ⟨p1, a1, v1, hz⟩ := D.out.1.1
            obtain ⟨k0, k1, k2⟩ := cells3 hz.ab
            have f0 := hz.fz 0
            have f1 := hz.fz 1
            have f2 := hz.fz 2
            go_simp
            refine hK.out _ _ ?_ (fun hH => ?_)
            · exact (D.out.fin (x - 1) (tbA y) (tbB z)).2.2
            clear hK K
            try simp only [Act.put, List.getElem_toArray, List.getElem_cons_succ, List.getElem_cons_zero, List.setIfInBounds_toArray, List.set_cons_zero, List.set_cons_succ]
            refine wpAnyH_done (by kernel_rfl) ?_ _
            refine NoPanic.normal ?_
            go_wp2
            refine bodyPost_ret (res_drLV _ rfl (D.out.fin (x - 1) (tbA y) (tbB z)).1) rfl ?_
            exact ⟨x - 1, tbA y, tbB z, rfl, (D.out.fin (x - 1) (tbA y) (tbB z)).2.1⟩
end Go.Proofs.Ytfagjbbljdgefaa
