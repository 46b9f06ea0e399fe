/- Logs drawn, by their contracts. -/
import Derived.Test.YtimijinldhpmfaaLgS
import Derived.Test.YtimijinldhpmfaaDraw
namespace Go.Proofs.Ytimijinldhpmfaa
open Go.RowKit

abbrev OE (w : World) (base : Nat) (A : Option Addr) (c : Nat) (l : List En) : Prop := w.ownsRow base 28 2 (.slice A l.length c) l.length (ens l)
theorem OE.far {w w' : World} {base g : Nat} {A : Option Addr} {c : Nat} {l : List En} (h : OE w base A c l) (hg : w.grownBy w' (some g)) (hlt : g < base) : OE w' base A c l := by
  refine World.ownsRow.kept h hg ?_
  cases e : (Value.slice A l.length c).ownBlock with
  | none => left; rfl
  | some k =>
    right
    intro e2
    injection e2 with e2
    have := (World.ownsRow.lt h k e).1
    omega
theorem OE.cap {w : World} {base : Nat} {A : Option Addr} {c : Nat} {l : List En} (h : OE w base A c l) : l.length ≤ c ∧ c ≤ maxLen ∧ (A = none → l.length = 0 ∧ c = 0) := by
  rcases h.2 with ⟨hv, h0⟩ | ⟨g, cap, cur, hv, _, _, hc, hm, _⟩
  · injection hv with hA hn hc
    subst hc
    exact ⟨by omega, Nat.zero_le _, fun _ => ⟨h0, rfl⟩⟩
  · injection hv with hA hn hc2
    subst hc2
    subst hA
    exact ⟨hc, hm, by intro h; cases h⟩
theorem OE.some_of {w : World} {base : Nat} {A : Option Addr} {c : Nat} {l : List En} (h : OE w base A c l) (hl : l.length ≠ 0) : ∃ b, A = some ⟨b, 0, none⟩ := by
  rcases h.2 with ⟨hv, h0⟩ | ⟨g, cap, cur, hv, _⟩
  · exact absurd h0 hl
  · injection hv with hA
    exact ⟨g, hA⟩
/-- Behind an append of one drawn entry. -/
theorem step_app2 {w w3 w4 : World} {base g q : Nat} {l : List En} {v v' : Value} {x : En} {o : Obj} (hb : w.heap.size ≤ base) (hlt : g < w.heap.size)
    (hg2 : w.grownBy w3 (some g)) (hr : RdX w3 g q) (hv : ∀ k, v.ownBlock = some k → base ≤ k)
    (ho : w4.ownsRow base 28 2 v' (l.length + 1) (ens l ++ [.int .i64 x.1, .int .i64 x.2])) (hg : (w3.alloc o).grownBy w4 v.ownBlock) :
    ∃ A c, v' = .slice A (l ++ [x]).length c ∧ OE w4 base A c (l ++ [x]) ∧ RdX w4 g q ∧ w.grownBy w4 (some g) := by
  have hg3 : w3.grownBy w4 v.ownBlock := ⟨hg.os, hg.tape, hg.output, Nat.le_trans (by simp) hg.size, fun i hi hne => (hg.block i (by simp; omega) hne).trans (Below.heap_alloc w3 o i hi)⟩
  rw [ens_one l x] at ho
  obtain ⟨A, c, rfl, h1⟩ := en_own (by simp) ho
  exact ⟨A, c, rfl, h1, hr.grown hg3 fun k hk => Nat.lt_of_lt_of_le hlt (Nat.le_trans hb (hv k hk)), grown_new hg2 hg3 fun k hk => Nat.le_trans hb (hv k hk)⟩

/-- A drawn log and a number of configurations. -/
def DrewLog (w : World) (g q : Nat) (e : Ending) (w' : World) : Prop :=
  ∃ (l : List En) (n : Int) (A : Option Addr) (c q' : Nat), e = .returned (.tuple #[.slice A l.length c, .int .i64 n]) ∧ 1 ≤ n ∧ n ≤ 4 ∧ l.length ≤ 8 ∧ OE w' w.heap.size A c l ∧ RdX w' g q' ∧ q' ≤ q + 30 ∧ w.grownBy w' (some g) ∧ ∃ b, A = some ⟨b, 0, none⟩

set_option maxRecDepth 100000 in
set_option maxHeartbeats 3200000 in
theorem l92Log_any (g q : Nat) (w : World) (hr : RdX w g q) (hq : q ≤ 1000) :
    Calls Try.prog 45 #[.pointer (some ⟨g, 0, none⟩)] w (DrewLog w g q) := by
  obtain ⟨i0, hi0, hz0, hz1, hz2⟩ := info_parts en_info
  have hlt := hr.lt
  go_enter Try.func45, Try.ntmps45
  go_wp2_with fail
  refine (pickX _ _ 4 _ hr (by omega) (by omega) (by omega)).mono ?_
  rintro e w1 ⟨n0, n1, n2, rfl, hr1, hg1⟩
  obtain ⟨n, hn⟩ : ∃ n, n = 1 + n0 := ⟨_, rfl⟩
  have hn4 : 1 ≤ n ∧ n ≤ 4 := by omega
  have hs1 := hg1.size
  have ho1 : OE (w1.alloc (.cells #[] 28)) w.heap.size (some ⟨w1.heap.size, 0, none⟩) 0 [] := World.ownsRow_made w1 #[] 0 hs1 (by unfold maxLen; omega) (by simp)
  have hr2 := hr1.below ((Below.refl _ w1).alloc (Nat.le_refl _) (.cells #[] 28))
  have hg2 := grown_below hg1 ((Below.refl _ w1).alloc (Nat.le_refl _) (.cells #[] 28))
  clear hr hr1 hg1
  go_wp2_with fail
  generalize w1.alloc (.cells #[] 28) = w2 at *
  refine (pickX _ _ 8 _ hr2 (by omega) (by omega) (by omega)).mono ?_
  rintro e w3 ⟨k0, k1, k2, rfl, hr3, hg3⟩
  obtain ⟨m, rfl⟩ := Int.eq_ofNat_of_zero_le k1
  rw [← hn]
  have hm : m ≤ 7 := by omega
  have H0 := Lib.hid (And.intro (ho1.far hg3 hlt) (And.intro hr3 (grown_trans hg2 hg3)))
  have HN := Lib.hid hn4
  clear ho1 hr2 hg2 hg3 hr3 hn n1 n2 k1 k2
  go_wp2
  go_loopw [5, 6] (fun v i wr => ∃ (l : List En) (j q' : Nat) (A : Option Addr) (c : Nat), i = .int .i64 j ∧ v = .slice A l.length c ∧ j + l.length ≤ 7 ∧ OE wr w.heap.size A c l ∧ RdX wr g q' ∧ q' ≤ q + 2 + 2 * l.length ∧ w.grownBy wr (some g) ∧ ∃ b, A = some ⟨b, 0, none⟩) (fun _ i _ => (intOf i).toNat)
  case atStart => exact ⟨[], m, q + 1 + 1, _, _, rfl, rfl, by simp; omega, H0.out.1, H0.out.2.1, by simp, H0.out.2.2, ⟨_, rfl⟩⟩
  case round =>
    clear H0
    obtain ⟨l, j, q', A, c, rfl, rfl, hjl, hown, hrd, hq', hgr, hAb⟩ := hrel
    cases j with
    | succ j =>
      have hj0 : (0 : Int) < ((j + 1 : Nat) : Int) := by omega
      have hj1 : ((j + 1 : Nat) : Int) - 1 = (j : Int) := by omega
      go_wp2_with fail
      refine (pickX _ _ 3 _ hrd (by omega) (by omega) (by omega)).mono ?_
      rintro e w4 ⟨y, y1, y2, rfl, hr4, hg4⟩
      have hown4 := hown.far hg4 hlt
      have hgr4 := grown_trans hgr hg4
      clear hown hrd hgr hg4
      by_cases hy : y = 0
      · have e1 : (y == 0) = true := by simp [hy]
        go_wp2_with fail
        refine (pickX _ _ n _ hr4 HN.out.1 (by have := HN.out; omega) (by omega)).mono ?_
        rintro e w5 ⟨z, z1, z2, rfl, hr5, hg5⟩
        have hown5 := hown4.far hg5 hlt
        have hgr5 := grown_trans hgr4 hg5
        have hs5 := hgr5.size
        have hz4 : z ≤ 3 := by have := HN.out; omega
        have hv : ∀ k, (Value.slice A l.length c).ownBlock = some k → w.heap.size ≤ k := fun k hk => (World.ownsRow.lt hown5 k hk).1
        clear hown4 hr4 hgr4 hg5
        go_wp2_with (at_builtin; refine wpList_append_own _ rfl (.tmp 20) (.tmp 26) 23 rfl w.heap.size 28 i0 (.agg #[.int .i64 0, .int .i64 0]) 2 16 Try.underlying23 hi0 hz0 hz1 hz2 rfl (by decide) _ _ _ rfl (World.ownsRow.alloc hown5 _) ⟨w5.heap.size, 0, none⟩ 1 1 [.int .i64 0, .int .i64 (1 + z)] rfl rfl (en_two (x := (0, 1 + z))) (ints_oneCell .i64 [0, 1 + z]) (by unfold maxLen; omega) (by omega) (by simp; omega) ?_)
        intro v' w6 ho6 hg6 _
        obtain ⟨A6, c6, rfl, ho7, hr7, hg7⟩ := step_app2 (x := (0, 1 + z)) (Nat.le_refl _) hlt hgr5 hr5 hv ho6 hg6
        have D := Lib.hid (And.intro ho7 (And.intro hr7 hg7))
        have hll : (l ++ [((0, 1 + z) : En)]).length = l.length + 1 := by simp
        clear ho6 hg6 ho7 hr7 hg7 hown5 hr5 hgr5
        generalize l ++ [((0, 1 + z) : En)] = l2 at *
        go_wp2
        go_roundw
        case rel => exact ⟨l2, j, q' + 1 + 1, A6, c6, by go_num, rfl, by omega, D.out.1, D.out.2.1, by omega, D.out.2.2, D.out.1.some_of (by omega)⟩
        case measure => simp [intOf]
      · have e1 : (y == 0) = false := by simp [hy]
        go_wp2_with fail
        refine (pickX _ _ 99 _ hr4 (by omega) (by omega) (by omega)).mono ?_
        rintro e w5 ⟨z, z1, z2, rfl, hr5, hg5⟩
        have hown5 := hown4.far hg5 hlt
        have hgr5 := grown_trans hgr4 hg5
        have hs5 := hgr5.size
        have hv : ∀ k, (Value.slice A l.length c).ownBlock = some k → w.heap.size ≤ k := fun k hk => (World.ownsRow.lt hown5 k hk).1
        clear hown4 hr4 hgr4 hg5
        go_wp2_with (at_builtin; refine wpList_append_own _ rfl (.tmp 28) (.tmp 33) 23 rfl w.heap.size 28 i0 (.agg #[.int .i64 0, .int .i64 0]) 2 16 Try.underlying23 hi0 hz0 hz1 hz2 rfl (by decide) _ _ _ rfl (World.ownsRow.alloc hown5 _) ⟨w5.heap.size, 0, none⟩ 1 1 [.int .i64 (1 + z), .int .i64 0] rfl rfl (en_two (x := (1 + z, 0))) (ints_oneCell .i64 [1 + z, 0]) (by unfold maxLen; omega) (by omega) (by simp; omega) ?_)
        intro v' w6 ho6 hg6 _
        obtain ⟨A6, c6, rfl, ho7, hr7, hg7⟩ := step_app2 (x := (1 + z, 0)) (Nat.le_refl _) hlt hgr5 hr5 hv ho6 hg6
        have D := Lib.hid (And.intro ho7 (And.intro hr7 hg7))
        have hll : (l ++ [((1 + z, 0) : En)]).length = l.length + 1 := by simp
        clear ho6 hg6 ho7 hr7 hg7 hown5 hr5 hgr5
        generalize l ++ [((1 + z, 0) : En)] = l2 at *
        go_wp2
        go_roundw
        case rel => exact ⟨l2, j, q' + 1 + 1, A6, c6, by go_num, rfl, by omega, D.out.1, D.out.2.1, by omega, D.out.2.2, D.out.1.some_of (by omega)⟩
        case measure => simp [intOf]
    | zero =>
      go_wp2_with fail
      refine (pickX _ _ 30 _ hrd (by omega) (by omega) (by omega)).mono ?_
      rintro e w4 ⟨y, y1, y2, rfl, hr4, hg4⟩
      have hown4 := hown.far hg4 hlt
      have hgr4 := grown_trans hgr hg4
      clear hown hrd hgr hg4
      by_cases hy : y = 0
      · have e1 : (y == 0) = true := by simp [hy]
        go_wp2_with fail
        refine (pickX _ _ 2 _ hr4 (by omega) (by omega) (by omega)).mono ?_
        rintro e w5 ⟨z, z1, z2, rfl, hr5, hg5⟩
        have hown5 := hown4.far hg5 hlt
        have hgr5 := grown_trans hgr4 hg5
        clear hown4 hr4 hgr4 hg5
        go_wp2_with fail
        refine (pickX _ _ 7 _ hr5 (by omega) (by omega) (by omega)).mono ?_
        rintro e w6 ⟨u, u1, u2, rfl, hr6, hg6⟩
        have hown6 := hown5.far hg6 hlt
        have hgr6 := grown_trans hgr5 hg6
        have hs6 := hgr6.size
        have hv : ∀ k, (Value.slice A l.length c).ownBlock = some k → w.heap.size ≤ k := fun k hk => (World.ownsRow.lt hown6 k hk).1
        clear hown5 hr5 hgr5 hg6
        go_wp2_with (at_builtin; refine wpList_append_own _ rfl (.tmp 38) (.tmp 44) 23 rfl w.heap.size 28 i0 (.agg #[.int .i64 0, .int .i64 0]) 2 16 Try.underlying23 hi0 hz0 hz1 hz2 rfl (by decide) _ _ _ rfl (World.ownsRow.alloc hown6 _) ⟨w6.heap.size, 0, none⟩ 1 1 [.int .i64 z, .int .i64 u] rfl rfl (en_two (x := (z, u))) (ints_oneCell .i64 [z, u]) (by unfold maxLen; omega) (by omega) (by simp; omega) ?_)
        intro v' w7 ho7 hg7 _
        obtain ⟨A8, c8, rfl, ho8, hr8, hg8⟩ := step_app2 (x := (z, u)) (Nat.le_refl _) hlt hgr6 hr6 hv ho7 hg7
        have D := Lib.hid (And.intro ho8 (And.intro hr8 hg8))
        have hll : (l ++ [((z, u) : En)]).length = l.length + 1 := by simp
        clear ho7 hg7 ho8 hr8 hg8 hown6 hr6 hgr6
        generalize l ++ [((z, u) : En)] = l2 at *
        go_wp2
        go_ret2
        exact ⟨l2, n, A8, c8, _, rfl, HN.out.1, HN.out.2, by omega, D.out.1, D.out.2.1, by omega, D.out.2.2, D.out.1.some_of (by omega)⟩
      · have e1 : (y == 0) = false := by simp [hy]
        have D := Lib.hid (And.intro hown4 (And.intro hr4 hgr4))
        clear hown4 hr4 hgr4
        go_wp2
        go_ret2
        exact ⟨l, n, A, c, _, rfl, HN.out.1, HN.out.2, by omega, D.out.1, D.out.2.1, by omega, D.out.2.2, hAb⟩
end Go.Proofs.Ytimijinldhpmfaa
