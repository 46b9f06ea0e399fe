/- The draws of chapter 31, by their contracts. -/
import Derived.Test.YtimijinldhpmfaaLgD
namespace Go.Proofs.Ytimijinldhpmfaa
open Go.RowKit

/-- A drawn log in memory. -/
def DL (w w' : World) (l : List En) (A : Option Addr) (c : Nat) : Prop := EnL w' A l ∧ l.length ≤ c ∧ c ≤ maxLen ∧ (∃ b, A = some ⟨b, 0, none⟩) ∧ Below w.heap.size w w'
theorem DL.mk {w w1 w' : World} {g base : Nat} {l : List En} {A : Option Addr} {c : Nat} (h : OE w' base A c l) (b : Below w.heap.size w w1) (hg : w1.grownBy w' (some g)) (hgw : w.heap.size ≤ g) (hA : ∃ b, A = some ⟨b, 0, none⟩) : DL w w' l A c :=
  ⟨en_row h, h.cap.1, h.cap.2.1, hA, b.grown hg b.size fun k hk => by injection hk with hk; omega⟩
set_option maxRecDepth 100000 in
set_option maxHeartbeats 1600000 in
theorem dDrawLogOpen_any (A : Option Addr) (c : Nat) (l : List Int) (w : World) (ha : BL w A l) (hc : l.length ≤ c) (hm : l.length ≤ maxLen) (hmc : c ≤ maxLen) :
    Calls Try.prog 22 #[.slice A l.length c] w fun e w' => ∃ (l : List En) (n : Int) (A : Option Addr) (c : Nat), e = .returned (.tuple #[.slice A l.length c, .int .i64 n]) ∧ 1 ≤ n ∧ n ≤ 4 ∧ l.length ≤ 8 ∧ DL w w' l A c := by
  go_enter Try.func22, Try.ntmps22
  go_wp2_with fail
  refine (l6Open_any _ _ _ _ ha hc hm hmc).mono ?_
  rintro e w1 ⟨rfl, hr1, b1⟩
  go_wp2_with fail
  refine (l92Log_any _ _ _ hr1 (by omega)).mono ?_
  rintro e w2 ⟨l2, n, A2, c2, q2, rfl, n1, n2, hl2, o2, _, _, g2, hA2⟩
  have D := Lib.hid (DL.mk o2 b1 g2 (Nat.le_refl _) hA2)
  clear o2 g2 b1 hr1 ha
  go_wp2
  go_ret2
  exact ⟨l2, n, A2, c2, rfl, n1, n2, hl2, D.out⟩
set_option maxRecDepth 100000 in
set_option maxHeartbeats 1600000 in
theorem dDrawLogValues_any (A : Option Addr) (c : Nat) (l : List Int) (w : World) (ha : BL w A l) (hc : l.length ≤ c) (hm : l.length ≤ maxLen) (hmc : c ≤ maxLen) :
    Calls Try.prog 31 #[.slice A l.length c] w fun e w' => ∃ (l : List En) (n : Int) (A : Option Addr) (c : Nat), e = .returned (.tuple #[.slice A l.length c, .int .i64 n]) ∧ 1 ≤ n ∧ n ≤ 4 ∧ l.length ≤ 8 ∧ DL w w' l A c := by
  go_enter Try.func31, Try.ntmps31
  go_wp2_with fail
  refine (l6Open_any _ _ _ _ ha hc hm hmc).mono ?_
  rintro e w1 ⟨rfl, hr1, b1⟩
  go_wp2_with fail
  refine (l92Log_any _ _ _ hr1 (by omega)).mono ?_
  rintro e w2 ⟨l2, n, A2, c2, q2, rfl, n1, n2, hl2, o2, _, _, g2, hA2⟩
  have D := Lib.hid (DL.mk o2 b1 g2 (Nat.le_refl _) hA2)
  clear o2 g2 b1 hr1 ha
  go_wp2
  go_ret2
  exact ⟨l2, n, A2, c2, rfl, n1, n2, hl2, D.out⟩
set_option maxRecDepth 100000 in
set_option maxHeartbeats 1600000 in
theorem dDrawLogConfig_any (A : Option Addr) (c : Nat) (l : List Int) (w : World) (ha : BL w A l) (hc : l.length ≤ c) (hm : l.length ≤ maxLen) (hmc : c ≤ maxLen) :
    Calls Try.prog 18 #[.slice A l.length c] w fun e w' => ∃ (l : List En) (n s : Int) (A : Option Addr) (c : Nat), e = .returned (.tuple #[.slice A l.length c, .int .i64 n, .int .i64 s]) ∧ 1 ≤ n ∧ n ≤ 4 ∧ l.length ≤ 8 ∧ -1 ≤ s ∧ s ≤ (l.length : Int) + 2 ∧ DL w w' l A c := by
  go_enter Try.func18, Try.ntmps18
  go_wp2_with fail
  refine (l6Open_any _ _ _ _ ha hc hm hmc).mono ?_
  rintro e w1 ⟨rfl, hr1, b1⟩
  go_wp2_with fail
  refine (l92Log_any _ _ _ hr1 (by omega)).mono ?_
  rintro e w2 ⟨l2, n, A2, c2, q2, rfl, n1, n2, hl2, o2, r2, hq2, g2, hA2⟩
  clear ha
  go_wp2_with fail
  refine (pickX _ _ ((l2.length : Int) + 4) _ r2 (by omega) (by omega) (by omega)).mono ?_
  rintro e w3 ⟨y, y1, y2, rfl, r3, g3⟩
  have D := Lib.hid (DL.mk (o2.far g3 hr1.lt) b1 (grown_trans g2 g3) (Nat.le_refl _) hA2)
  clear o2 g2 g3 b1 hr1 r2 r3
  go_wp2
  go_ret3
  exact ⟨l2, n, y - 1, A2, c2, rfl, n1, n2, hl2, by omega, by omega, D.out⟩
set_option maxRecDepth 100000 in
set_option maxHeartbeats 1600000 in
theorem dDrawLogValid_any (A : Option Addr) (c : Nat) (l : List Int) (w : World) (ha : BL w A l) (hc : l.length ≤ c) (hm : l.length ≤ maxLen) (hmc : c ≤ maxLen) :
    Calls Try.prog 34 #[.slice A l.length c] w fun e w' => ∃ (l : List En) (n : Int) (A : Option Addr) (c : Nat), e = .returned (.tuple #[.slice A l.length c, .int .i64 n]) ∧ 0 ≤ n ∧ n ≤ 6 ∧ l.length ≤ 9 ∧ DL w w' l A c := by
  obtain ⟨i0, hi0, hz0, hz1, hz2⟩ := info_parts en_info
  go_enter Try.func34, Try.ntmps34
  go_wp2_with fail
  refine (l6Open_any _ _ _ _ ha hc hm hmc).mono ?_
  rintro e w1 ⟨rfl, hr1, b1⟩
  go_wp2_with fail
  refine (l92Log_any _ _ _ hr1 (by omega)).mono ?_
  rintro e w2 ⟨l2, n, A2, c2, q2, rfl, n1, n2, hl2, o2, r2, hq2, g2, hA2⟩
  have hlt := hr1.lt
  clear ha hr1
  go_wp2_with fail
  refine (pickX _ _ 4 _ r2 (by omega) (by omega) (by omega)).mono ?_
  rintro e w3 ⟨y, y1, y2, rfl, r3, g3⟩
  have o3 := o2.far g3 hlt
  have gr3 := grown_trans g2 g3
  clear o2 r2 g2 g3
  by_cases hy : y = 0
  · have e1 : (y == 0) = true := by simp [hy]
    go_wp2_with fail
    refine (pickX _ _ 2 _ r3 (by omega) (by omega) (by omega)).mono ?_
    rintro e w4 ⟨z, z1, z2, rfl, r4, g4⟩
    have o4 := o3.far g4 hlt
    have gr4 := grown_trans gr3 g4
    clear o3 r3 gr3 g4
    go_wp2_with fail
    refine (pickX _ _ 7 _ r4 (by omega) (by omega) (by omega)).mono ?_
    rintro e w5 ⟨u, u1, u2, rfl, r5, g5⟩
    have o5 := o4.far g5 hlt
    have gr5 := grown_trans gr4 g5
    have hs5 := gr5.size
    have hv : ∀ k, (Value.slice A2 l2.length c2).ownBlock = some k → w1.heap.size ≤ k := fun k hk => (World.ownsRow.lt o5 k hk).1
    clear o4 r4 gr4 g5
    go_wp2_with (at_builtin; refine wpList_append_own _ rfl (.tmp 17) (.tmp 23) 23 rfl w1.heap.size 28 i0 (.agg #[.int .i64 0, .int .i64 0]) 2 16 Try.underlying23 hi0 hz0 hz1 hz2 rfl (by decide) _ _ _ rfl (World.ownsRow.alloc o5 _) ⟨w5.heap.size, 0, none⟩ 1 1 [.int .i64 z, .int .i64 u] rfl rfl (en_two (x := (z, u))) (ints_oneCell .i64 [z, u]) (by unfold maxLen; omega) (by omega) (by simp; omega) ?_)
    intro v' w6 ho6 hg6 _
    obtain ⟨A8, c8, rfl, ho8, hr8, hg8⟩ := step_app2 (x := (z, u)) (Nat.le_refl _) hlt gr5 r5 hv ho6 hg6
    have hA8 := ho8.some_of (by simp)
    have hll : (l2 ++ [((z, u) : En)]).length ≤ 9 := by simp; omega
    clear ho6 hg6 o5 r5 gr5
    generalize l2 ++ [((z, u) : En)] = l3 at *
    go_wp2_with fail
    refine (pickX _ _ 7 _ hr8 (by omega) (by omega) (by omega)).mono ?_
    rintro e w7 ⟨m, m1, m2, rfl, r7, g7⟩
    have D := Lib.hid (DL.mk (ho8.far g7 hlt) b1 (grown_trans hg8 g7) (Nat.le_refl _) hA8)
    clear ho8 hr8 hg8 r7 g7 b1
    go_wp2
    go_ret2
    exact ⟨l3, m, A8, c8, rfl, m1, by omega, by omega, D.out⟩
  · have e1 : (y == 0) = false := by simp [hy]
    have D := Lib.hid (DL.mk o3 b1 gr3 (Nat.le_refl _) hA2)
    clear o3 r3 gr3 b1
    go_wp2
    go_ret2
    exact ⟨l2, n, A2, c2, rfl, by omega, by omega, by omega, D.out⟩

/-- Behind the store of the drawn entry into the result's block. -/
theorem fin_dla {w w1 w6 : World} {l : List En} {A : Option Addr} {c : Nat} (b1 : Below w.heap.size w w1) (N1 : AFEn w1 w.heap.size (0, 0)) (ho : OE w6 w1.heap.size A c l) (hg : w1.grownBy w6 (some (w.heap.size + 1))) (x : En) (hA : ∃ b, A = some ⟨b, 0, none⟩) :
    AFEn w6 w.heap.size (0, 0) ∧ AFEn ((w6.setCell ⟨w.heap.size, 0, none⟩ (.int .i64 x.1)).setCell ⟨w.heap.size, 1, none⟩ (.int .i64 x.2)) w.heap.size x ∧ DL w ((w6.setCell ⟨w.heap.size, 0, none⟩ (.int .i64 x.1)).setCell ⟨w.heap.size, 1, none⟩ (.int .i64 x.2)) l A c := by
  have N6 : AFEn w6 w.heap.size (0, 0) := N1.kept (hg.block _ N1.lt (by simp))
  have b6 : Below w.heap.size w w6 := b1.grown hg b1.size fun k hk => by injection hk with hk; omega
  have hlt := N1.lt
  have hk : ∀ i, i ≠ w.heap.size → ((w6.setCell ⟨w.heap.size, 0, none⟩ (.int .i64 x.1)).setCell ⟨w.heap.size, 1, none⟩ (.int .i64 x.2)).heap[i]? = w6.heap[i]? := fun i hi =>
    (Below.heap_setCell _ ⟨w.heap.size, 1, none⟩ _ i (by rintro rfl; exact hi rfl)).trans (Below.heap_setCell w6 ⟨w.heap.size, 0, none⟩ _ i (by rintro rfl; exact hi rfl))
  have e := (en_row ho).keep (w' := (w6.setCell ⟨w.heap.size, 0, none⟩ (.int .i64 x.1)).setCell ⟨w.heap.size, 1, none⟩ (.int .i64 x.2)) (by simp [World.setCell]) fun b off hA hb => hk b (by
    have h2 : (Value.slice A l.length c).ownBlock = some b := by rw [hA]; rfl
    have := (World.ownsRow.lt ho b h2).1
    omega)
  exact ⟨N6, N6.set x, e, ho.cap.1, ho.cap.2.1, hA, (b6.setCell (Nat.le_refl _) _).setCell (Nat.le_refl _) _⟩
theorem res_dla {W : World} {b : Nat} {x : En} {A : Value} {n : Value} (tmps : Array Value) (h2 : tmps.getD 2 undef = A) (h3 : tmps.getD 3 undef = n) (h4 : tmps.getD 4 undef = .pointer (some ⟨b, 0, none⟩)) (h : AFEn W b x) :
    (results Try.f27 tmps).run Try.prog W = .ok (.tuple #[A, n, .agg #[.int .i64 x.1, .int .i64 x.2]]) W := by
  obtain ⟨q0, q1⟩ := h.c
  have e : ∀ {fn : Func} {p u v : Tmp} {ty : TypeId} (_ : fn.results = #[.tmp u, .tmp v, .cell p ty]) (tmps : Array Value) (P : Program) (w : World),
      (results fn tmps).run P w = ((asAddr (tmps.getD p undef)).run P w).andThen fun a w₁ => ((loadVar ty a).run P w₁).andThen fun x w₂ => .ok (.tuple #[tmps.getD u undef, tmps.getD v undef, x]) w₂ := by
    intro fn p u v ty h tmps P w
    simp only [results, h]
    simp [Sem.run_bind, Result.andThen]
  rw [e rfl, h2, h3, h4]
  go_simp
set_option maxRecDepth 100000 in
set_option maxHeartbeats 3200000 in
theorem dDrawLogAppend_any (A : Option Addr) (c : Nat) (l : List Int) (w : World) (ha : BL w A l) (hc : l.length ≤ c) (hm : l.length ≤ maxLen) (hmc : c ≤ maxLen) :
    Calls Try.prog 27 #[.slice A l.length c] w fun e w' => ∃ (l : List En) (n : Int) (x : En) (A : Option Addr) (c : Nat), e = .returned (.tuple #[.slice A l.length c, .int .i64 n, .agg #[.int .i64 x.1, .int .i64 x.2]]) ∧ 1 ≤ n ∧ n ≤ 4 ∧ l.length ≤ 12 ∧ DL w w' l A c := by
  obtain ⟨i0, hi0, hz0, hz1, hz2⟩ := info_parts en_info
  have B0 := (Below.refl _ w).alloc (Nat.le_refl _) (.cells #[.int .i64 0, .int .i64 0] 28)
  have N0 := AFEn.new w (0, 0) 28
  have h1 := ha.below B0
  have hsz0 : (w.alloc (.cells #[.int .i64 0, .int .i64 0] 28)).heap.size = w.heap.size + 1 := by simp
  clear ha
  go_enter Try.func27, Try.ntmps27
  go_wp2_with fail
  refine (l6Open_any _ _ _ _ h1 hc hm hmc).mono ?_
  rintro e w1 ⟨rfl, hr1, b1⟩
  have N1 := N0.below b1
  have b1 := below_step B0 b1
  rw [hsz0] at hr1
  go_wp2_with fail
  refine (l92Log_any _ _ _ (by simpa using hr1) (by omega)).mono ?_
  rintro e w2 ⟨l2, n, A2, c2, q2, rfl, n1, n2, hl2, o2, r2, hq2, g2, hA2⟩
  have hlt := hr1.lt
  have H0 := Lib.hid (And.intro o2 (And.intro r2 g2))
  clear h1 B0 hr1 N0 o2 r2 g2 hsz0
  go_wp2
  go_loopw [6] (fun v wr => ∃ (l : List En) (q : Nat) (A : Option Addr) (c : Nat), v = .slice A l.length c ∧ l.length ≤ 12 ∧ OE wr w1.heap.size A c l ∧ RdX wr (w.heap.size + 1) q ∧ q ≤ 100 + l.length ∧ w1.grownBy wr (some (w.heap.size + 1)) ∧ ∃ b, A = some ⟨b, 0, none⟩) (fun v _ => match v with | .slice _ k _ => 12 - k | _ => 0)
  case atStart => exact ⟨l2, q2, A2, c2, rfl, by omega, H0.out.1, H0.out.2.1, by omega, H0.out.2.2, hA2⟩
  case round =>
    clear H0
    obtain ⟨l3, q, A3, c3, rfl, hl3, hown, hrd, hq, hgr, hAb⟩ := hrel
    go_wp2_with fail
    refine (pickX _ _ 6 _ hrd (by omega) (by omega) (by omega)).mono ?_
    rintro e w4 ⟨y, y1, y2, rfl, hr4, hg4⟩
    have hown4 := hown.far hg4 hlt
    have hgr4 := grown_trans hgr hg4
    clear hown hrd hgr hg4
    by_cases hgo : y = 0 ∧ l3.length < 12
    · have e1 : (y == 0) = true := by simp [hgo.1]
      have e2 : decide ((l3.length : Int) < 12) = true := by simp; omega
      have hs5 := hgr4.size
      have hv : ∀ k, (Value.slice A3 l3.length c3).ownBlock = some k → w1.heap.size ≤ k := fun k hk => (World.ownsRow.lt hown4 k hk).1
      go_wp2_with (at_builtin; refine wpList_append_own _ rfl (.tmp 23) (.tmp 25) 23 rfl w1.heap.size 28 i0 (.agg #[.int .i64 0, .int .i64 0]) 2 16 Try.underlying23 hi0 hz0 hz1 hz2 rfl (by decide) _ _ _ rfl (World.ownsRow.alloc hown4 _) ⟨w4.heap.size, 0, none⟩ 1 1 [.int .i64 7, .int .i64 0] rfl rfl (en_two (x := (7, 0))) (ints_oneCell .i64 [7, 0]) (by unfold maxLen; omega) (by omega) (by simp; omega) ?_)
      intro v' w6 ho6 hg6 _
      obtain ⟨A8, c8, rfl, ho8, hr8, hg8⟩ := step_app2 (x := (7, 0)) (Nat.le_refl _) hlt hgr4 hr4 hv ho6 hg6
      have D := Lib.hid (And.intro ho8 (And.intro hr8 hg8))
      have hll : (l3 ++ [((7, 0) : En)]).length = l3.length + 1 := by simp
      clear ho6 hg6 ho8 hr8 hg8 hown4 hr4 hgr4
      generalize l3 ++ [((7, 0) : En)] = l4 at *
      go_wp2
      go_roundw
      case rel => exact ⟨l4, q + 1, A8, c8, rfl, by omega, D.out.1, D.out.2.1, by omega, D.out.2.2, D.out.1.some_of (by omega)⟩
      case measure => simp; omega
    · have e2 : (y == 0) = true → decide ((l3.length : Int) < 12) = false := by intro h; simp at h; simp; omega
      have STOP : (y == 0) = false ∨ ((y == 0) = true ∧ decide ((l3.length : Int) < 12) = false) := by
        cases h : (y == 0)
        · left; rfl
        · right; exact ⟨rfl, e2 h⟩
      clear e2 hgo
      rcases STOP with e1 | ⟨e1, e2⟩
      all_goals (
        go_wp2_with fail
        refine (pickX _ _ 2 _ hr4 (by omega) (by omega) (by omega)).mono ?_
        rintro e w5 ⟨t, t1, t2, rfl, hr5, hg5⟩
        have hown5 := hown4.far hg5 hlt
        have hgr5 := grown_trans hgr4 hg5
        clear hown4 hr4 hgr4 hg5
        by_cases ht : t = 0
        · have e3 : (t == 0) = true := by simp [ht]
          go_wp2_with fail
          refine (pickX _ _ 101 _ hr5 (by omega) (by omega) (by omega)).mono ?_
          rintro e w6 ⟨z, z1, z2, rfl, hr6, hg6⟩
          have hown6 := hown5.far hg6 hlt
          have hgr6 := grown_trans hgr5 hg6
          have D := fin_dla b1 N1 hown6 hgr6 (z, 0) hAb
          have N6 := D.1
          obtain ⟨u0, u1⟩ := N6.c
          have f0 := N6.fz 0
          have f1 := N6.fz 1
          have DD := Lib.hid D.2
          clear hown5 hr5 hgr5 hg6 hown6 hgr6 hr6 D N6
          simp only at u0 u1
          go_wp2
          refine bodyPost_ret (res_dla (x := (z, 0)) _ rfl rfl rfl DD.out.1) rfl ?_
          exact ⟨l3, n, (z, 0), A3, c3, rfl, n1, n2, hl3, DD.out.2⟩
        · have e3 : (t == 0) = false := by simp [ht]
          go_wp2_with fail
          refine (pickX _ _ 6 _ hr5 (by omega) (by omega) (by omega)).mono ?_
          rintro e w6 ⟨z, z1, z2, rfl, hr6, hg6⟩
          have hown6 := hown5.far hg6 hlt
          have hgr6 := grown_trans hgr5 hg6
          have D := fin_dla b1 N1 hown6 hgr6 (0, z) hAb
          have N6 := D.1
          obtain ⟨u0, u1⟩ := N6.c
          have f0 := N6.fz 0
          have f1 := N6.fz 1
          have DD := Lib.hid D.2
          clear hown5 hr5 hgr5 hg6 hown6 hgr6 hr6 D N6
          simp only at u0 u1
          go_wp2
          refine bodyPost_ret (res_dla (x := (0, z)) _ rfl rfl rfl DD.out.1) rfl ?_
          exact ⟨l3, n, (0, z), A3, c3, rfl, n1, n2, hl3, DD.out.2⟩)
end Go.Proofs.Ytimijinldhpmfaa
