/- The walk of chapter 31's law on appending. -/
import Derived.Test.YtimijinldhpmfaaWLgO
namespace Go.Proofs.Ytimijinldhpmfaa
open Go.RowKit

set_option maxRecDepth 100000 in
set_option maxHeartbeats 1600000 in
theorem sameLog_yes (A B : Option Addr) (c d : Nat) (l : List En) (w : World) (ha : EnL w A l) (hb : EnL w B l) (hl : l.length ≤ 1048577) :
    Calls Try.prog 29 #[.slice A l.length c, .slice B l.length d] w fun e w' => e = .returned (.bool true) ∧ Below w.heap.size w w' := by
  go_enter Try.func29, Try.ntmps29
  go_wp2
  go_loopw [5] (fun i wr => ∃ k : Nat, k ≤ l.length ∧ i = .int .i64 k ∧ Below w.heap.size w wr) (fun i _ => l.length - (intOf i).toNat)
  case atStart => exact ⟨0, Nat.zero_le _, rfl, Below.refl _ w⟩
  case round =>
    obtain ⟨k, hk, rfl, hbel⟩ := hrel
    by_cases hlt : k < l.length
    · obtain ⟨b, off, x, rfl, hx, c0, c1⟩ := (ha.below hbel).at_ hlt
      obtain ⟨b', off', x', rfl, hx', c0', c1'⟩ := (hb.below hbel).at_ hlt
      obtain rfl : x = x' := by rw [hx] at hx'; exact Option.some.inj hx'
      have hki : (0 : Int) ≤ (k : Int) := by omega
      have hki2 : (k : Int) < (l.length : Int) := by omega
      clear hx hx'
      go_wp2
      go_quiet (fail)
      have HB := Lib.hid (below_drewN hbel nq)
      clear hbel c0 c1 c0' c1'
      go_wp2
      go_roundw
      case rel => exact ⟨k + 1, by omega, by go_num, HB.out⟩
      case measure => simp [intOf]; omega
    · go_wp2
      go_ret
      exact ⟨rfl, hbel⟩
theorem lapp_cases (l : List En) (n : Int) (e : En) : (okL l n = true ∧ okE n e = true ∧ l.length ≠ 12 ∧ lapp l n e = (l ++ [e], true)) ∨ (lapp l n e = (l, false) ∧ l.length = 12) ∨ lapp l n e = ([], false) := by
  by_cases h : okL l n = true
  · by_cases he : okE n e = true
    · by_cases h12 : l.length = 12
      · exact .inr (.inl ⟨lapp_full h he h12, h12⟩)
      · exact .inl ⟨h, he, h12, lapp_yes h he h12⟩
    · exact .inr (.inr (lapp_no (.inr (by simpa using he))))
  · exact .inr (.inr (lapp_no (.inl (by simpa using h))))
theorem afen_heap {w w' : World} {b : Nat} {x : En} (h : AFEn w b x) (e : w'.heap = w.heap) : AFEn w' b x := h.kept (by rw [e])
theorem en_cells_of {w : World} {b : Nat} {l : List En} (h : EnL w (some ⟨b, 0, none⟩) l) {k : Nat} {x : En} (hx : l[k]? = some x) : w.cell? ⟨b, k * 2, none⟩ = some (.int .i64 x.1) ∧ w.cell? ⟨b, k * 2 + 1, none⟩ = some (.int .i64 x.2) := by
  obtain ⟨b', off, y, e, hy, c0, c1⟩ := h.at_ (List.getElem?_eq_some_iff.1 hx).1
  injection e with e
  injection e with e1 e2
  subst e1; subst e2
  rw [hx] at hy
  injection hy with hy
  subst hy
  rw [Nat.zero_add] at c0 c1
  exact ⟨c0, c1⟩
theorem en_some {w : World} {lo hi : Nat} {A : Option Addr} {c : Nat} {l : List En} (h : OEn w lo hi A c l) (hl : l.length ≠ 0) : ∃ b, A = some ⟨b, 0, none⟩ := by
  obtain ⟨T, h, _⟩ := h
  rcases h.2 with ⟨hv, h0⟩ | ⟨g, cap, cur, hv, _⟩
  · exact absurd h0 hl
  · injection hv with hA
    exact ⟨g, hA⟩
theorem en_cap {w : World} {lo hi : Nat} {A : Option Addr} {c : Nat} {l : List En} (h : OEn w lo hi A c l) : l.length ≤ c := by
  obtain ⟨T, h, _⟩ := h
  rcases h.2 with ⟨hv, h0⟩ | ⟨g, cap, cur, hv, _, _, hc, _⟩
  · injection hv with hA hn hc
    omega
  · injection hv with hA hn hc2
    omega
set_option maxRecDepth 100000 in
set_option maxHeartbeats 3200000 in
theorem walkLogAppend (A : Option Addr) (c : Nat) (l : List Int) (w : World) (ha : BL w A l) (hc : l.length ≤ c) (hm : l.length ≤ maxLen) (hmc : c ≤ maxLen) :
    Calls Try.prog 8 #[.slice A l.length c] w fun e w' => e = .returned (.bool true) ∧ Below w.heap.size w w' := by
  have hm1 := hm
  unfold maxLen at hm1
  by_cases hl : l.length ≤ 1048576
  · have ez : decide (1048576 < (l.length : Int)) = false := by simp; omega
    go_enter Try.func8, Try.ntmps8
    go_wp2_with fail
    refine (dDrawLogAppend_any _ _ _ _ ha hc hm hmc).mono ?_
    rintro e w1 ⟨L, n, y, B, d, rfl, n1, n4, hL, D⟩
    obtain ⟨hE, hd, hdm, ⟨b, rfl⟩, b1⟩ := D
    clear ha hc hm hmc
    obtain ⟨y0, y1⟩ := y
    have N := Lib.hid (AFEn.new w1 (y0, y1) 28)
    have B0 : Below w1.heap.size w1 (w1.alloc (.cells #[.int .i64 y0, .int .i64 y1] 28)) := (Below.refl _ w1).alloc (Nat.le_refl _) _
    have hE := hE.below B0
    have BB := below_step b1 B0
    have LC := Lib.hid (lapp_cases L n (y0, y1))
    clear b1 B0
    obtain ⟨⟨M, t⟩, hr⟩ : ∃ r, r = lapp L n (y0, y1) := ⟨_, rfl⟩
    have HR := Lib.hid hr
    have hM13 : M.length ≤ 13 := by
      have := LC.out
      rw [← hr] at this
      rcases this with ⟨_, _, _, e⟩ | ⟨e, _⟩ | e <;> (injection e with e1 e2; subst e1; simp; try omega)
    rw [← hr] at LC
    clear hr
    go_wp2_with fail
    refine (sLogAppend_any _ _ _ _ (y0, y1) _ hE (by intro h; cases h) (by omega)).mono ?_
    rw [← HR.out]
    rintro e w2 ⟨A2, c2, rfl, o2, b2⟩
    have hE := hE.below b2
    have N := Lib.hid (N.out.below b2)
    have I2 := o2.rd
    have BB := below_step BB b2
    obtain ⟨u0, u1⟩ := N.out.c
    simp only at u0 u1
    clear b2 o2
    go_wp2_with fail
    refine (iLogAppend_any _ _ _ _ (y0, y1) _ hE (by omega)).mono ?_
    rw [← HR.out]
    rintro e w3 ⟨A3, c3, rfl, o3, b3⟩
    have hE := hE.below b3
    have N := Lib.hid (N.out.below b3)
    have I2 := I2.below b3
    have I3 := o3.rd
    have hA3 := en_some o3
    have hc3 := en_cap o3
    have BB := below_step BB b3
    clear b3 o3 u0 u1 HR
    simp only at I2 I3 hA3 hc3 ⊢
    go_wp2_with fail
    refine (sameLog_yes _ _ _ _ _ _ I3 I2 (by omega)).mono ?_
    rintro e w4 ⟨rfl, b4⟩
    have hE := hE.below b4
    have N := Lib.hid (N.out.below b4)
    have I2 := I2.below b4
    have I3 := I3.below b4
    have BB := below_step BB b4
    clear b4
    cases t with
    | false =>
      go_wp2_with fail
      refine (sameLog_yes _ _ _ _ _ _ I3 I2 (by omega)).mono ?_
      rintro e w5 ⟨rfl, b5⟩
      have BB := below_step BB b5
      clear b5 hE I2 I3 hA3 hc3
      have LC := LC.out
      rcases LC with ⟨_, _, _, e⟩ | ⟨e, h12⟩ | e
      · injection e with _ e
        cases e
      · injection e with e _
        subst e
        have h12i : (M.length : Int) = 12 := by omega
        clear h12 N
        go_wp2
        go_ret
        exact ⟨rfl, BB⟩
      · injection e with e _
        subst e
        clear N
        simp only [List.length_nil]
        go_wp2
        go_ret
        exact ⟨rfl, BB⟩
    | true =>
      have LC := LC.out
      rcases LC with ⟨hok, hy, h12, e⟩ | ⟨e, _⟩ | e
      · injection e with e _
        subst e
        obtain ⟨bx, rfl⟩ := hA3 (by simp)
        have hlen : (L ++ [((y0, y1) : En)]).length = L.length + 1 := by simp
        have OK := okL_app hok hy h12
        obtain ⟨X, hne, W, x0, h0, hWb, hW⟩ := fam_of w4
        have E1 : ∀ x, Calls Try.prog 29 #[.slice (some ⟨bx, 0, none⟩) L.length c3, .slice (some ⟨b, 0, none⟩) L.length d] (W x) fun e w'' => e = .returned (.bool true) ∧ ∃ y, w'' = W y := fun x =>
          fam_calls hW (sameLog_yes (some ⟨bx, 0, none⟩) (some ⟨b, 0, none⟩) c3 d L (W x) (by have := (I3.below (hWb x)).take (k := L.length); rwa [List.take_append_of_le_length (Nat.le_refl _), List.take_length] at this) (hE.below (hWb x)) (by omega))
        have E2 : ∀ x, Calls Try.prog 30 #[.slice (some ⟨bx, 0, none⟩) (L.length + 1) c3, .int .i64 n] (W x) fun e w'' => e = .returned (.bool true) ∧ ∃ y, w'' = W y := fun x => by
          have T := iLogValid_any (some ⟨bx, 0, none⟩) c3 _ n (W x) (I3.below (hWb x)) (by rw [hlen]; omega)
          rw [hlen, OK] at T
          exact fam_calls hW T
        have hx : (L ++ [((y0, y1) : En)])[L.length]? = some (y0, y1) := by simp
        have q0 : ∀ x, (W x).cell? ⟨bx, L.length * 2, none⟩ = some (.int .i64 y0) := fun x => (en_cells_of (I3.below (hWb x)) hx).1
        have q1 : ∀ x, (W x).cell? ⟨bx, L.length * 2 + 1, none⟩ = some (.int .i64 y1) := fun x => (en_cells_of (I3.below (hWb x)) hx).2
        have r0 : ∀ x, (W x).cell? ⟨w1.heap.size, 0, none⟩ = some (.int .i64 y0) := fun x => (N.out.below (hWb x)).c.1
        have r1 : ∀ x, (W x).cell? ⟨w1.heap.size, 1, none⟩ = some (.int .i64 y1) := fun x => (N.out.below (hWb x)).c.2
        have hk0 : (0 : Int) ≤ (L.length : Int) := by omega
        have hkc : (L.length : Int) ≤ (c3 : Int) := by rw [hlen] at hc3; omega
        have hkl : (L.length : Int) < (L.length : Int) + 1 := by omega
        have H1 := Lib.hid E1
        have H2 := Lib.hid E2
        have HB := Lib.hid hWb
        rw [hlen]
        clear E1 E2 hWb hW hx OK hok hy h12 hE I2 I3 hA3 hc3 N hlen
        go_wp2
        refine wp_region_fam W (by kernel_rfl) (by kernel_rfl) x0 h0 ?_
        repeat (go_big_quiet_step (first | (go_at_call 29; exact H1.out _) | (go_at_call 30; exact H2.out _) | fail))
        refine wpQuiet_nil ?_
        rintro _ ⟨x, rfl⟩
        have HB2 := Lib.hid (below_step BB (HB.out x))
        clear BB HB H1 H2 q0 q1 r0 r1
        go_wp2
        go_ret
        exact ⟨rfl, HB2.out⟩
      · injection e with _ e
        cases e
      · injection e with _ e
        cases e
  · have ez : decide (1048576 < (l.length : Int)) = true := by simp; omega
    clear ha hc hm hmc hl
    go_enter Try.func8, Try.ntmps8
    go_wp2
    go_ret
    exact ⟨rfl, Below.refl _ _⟩

end Go.Proofs.Ytimijinldhpmfaa
