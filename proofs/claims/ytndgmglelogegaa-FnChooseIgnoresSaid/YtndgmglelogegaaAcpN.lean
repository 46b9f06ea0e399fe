/- Lists of acceptors drawn, by their contracts. -/
import Derived.Test.YtndgmglelogegaaAcpM
import Derived.Test.YtndgmglelogegaaAcpE
namespace Go.Proofs.Ytndgmglelogegaa
open Go.RowKit

abbrev OA (w : World) (base : Nat) (A : Option Addr) (c : Nat) (l : List Ac) : Prop := w.ownsRow base 24 3 (.slice A l.length c) l.length (acs l)
theorem OA.al {w : World} {base : Nat} {A : Option Addr} {c : Nat} {l : List Ac} (h : OA w base A c l) : AL w A l := by
  rcases h.2 with ⟨_, h0⟩ | ⟨g, cap, cur, hv, hb, hg, _, _, _, ht⟩
  · left; exact List.eq_nil_of_length_eq_zero (by omega)
  · right
    injection hv with hA
    subst hA
    refine ⟨g, 0, rfl, (Array.getElem?_eq_some_iff.1 hg).1, fun j x hx => ?_⟩
    have := World.ownsRow.cells h (g := g) rfl j x hx
    rw [Addr.add_lit] at this
    exact this
theorem three_new {w : World} {P a v : Int} {T : Nat} : ∀ j u, ([.int .i64 P, .int .i64 a, .int .i64 v] : List Value)[j]? = some u → (w.alloc (.cells #[.int .i64 P, .int .i64 a, .int .i64 v] T)).cell? ((⟨w.heap.size, 0, none⟩ : Addr).add j) = some u := by
  intro j u hu
  obtain ⟨c0, c1, c2⟩ := new3 (w := w) (p := P) (a := a) (v := v) (T := T) rfl
  match j with
  | 0 => simp at hu; subst hu; exact c0
  | 1 => simp at hu; subst hu; exact c1
  | 2 => simp at hu; subst hu; exact c2
  | j + 3 => simp at hu
theorem kept_far3 {w w' : World} {base g : Nat} {A : Option Addr} {c : Nat} {l : List Ac} (h : OA w base A c l) (hg : w.grownBy w' (some g)) (hlt : g < base) : OA w' base A c l := by
  refine World.ownsRow.kept h hg ?_
  cases e : (Value.slice A l.length c).ownBlock with
  | none => left; rfl
  | some k =>
    right
    intro e2
    injection e2 with e2
    have := (World.ownsRow.lt h k e).1
    omega
theorem own_slice3 {w : World} {base : Nat} {v : Value} {n : Nat} {l : List Ac} (hn : n = l.length) (h : w.ownsRow base 24 3 v n (acs l)) : ∃ A c, v = .slice A l.length c ∧ OA w base A c l := by
  subst hn
  rcases h.2 with ⟨rfl, h0⟩ | ⟨g, cap, cur, rfl, _⟩
  · exact ⟨none, 0, by rw [← h0], by rw [OA, ← h0]; rw [← h0] at h; exact h⟩
  · exact ⟨_, _, rfl, h⟩
/-- Behind an append of one drawn state to a row of the call's own. -/
theorem step_app3 {w w3 w4 : World} {g q : Nat} {l : List Ac} {v v' : Value} {x : Ac} {o : Obj} (hlt : g < w.heap.size)
    (hg2 : w.grownBy w3 (some g)) (hr : RdX w3 g q) (hv : ∀ k, v.ownBlock = some k → w.heap.size ≤ k)
    (ho : w4.ownsRow w.heap.size 24 3 v' (l.length + 1) (acs l ++ [.int .i64 x.1, .int .i64 x.2.1, .int .i64 x.2.2])) (hg : (w3.alloc o).grownBy w4 v.ownBlock) :
    ∃ A c, v' = .slice A (l ++ [x]).length c ∧ OA w4 w.heap.size A c (l ++ [x]) ∧ RdX w4 g q ∧ w.grownBy w4 (some g) := by
  have hg3 : w3.grownBy w4 v.ownBlock := ⟨hg.os, hg.tape, hg.output, Nat.le_trans (by simp) hg.size, fun i hi hne => (hg.block i (by simp; omega) hne).trans (Below.heap_alloc w3 o i hi)⟩
  have e : acs l ++ [.int .i64 x.1, .int .i64 x.2.1, .int .i64 x.2.2] = acs (l ++ [x]) := by rw [acs_app]; rfl
  rw [e] at ho
  obtain ⟨A, c, rfl, h1⟩ := own_slice3 (by simp) ho
  exact ⟨A, c, rfl, h1, hr.grown hg3 fun k hk => Nat.lt_of_lt_of_le hlt (hv k hk), grown_new hg2 hg3 hv⟩
/-- A drawn list of states and a value. -/
def DrewL (w : World) (e : Ending) (w' : World) : Prop :=
  ∃ (l : List Ac) (own : Int) (A : Option Addr) (c : Nat), l.length ≤ 4 ∧ -8 ≤ own ∧ own ≤ 9 ∧ e = .returned (.tuple #[.slice A l.length c, .int .i64 own]) ∧ AL w' A l ∧ Below w.heap.size w w' ∧ ∃ g, A = some ⟨g, 0, none⟩

set_option maxRecDepth 100000 in
set_option maxHeartbeats 3200000 in
theorem drawCh_any (A : Option Addr) (c : Nat) (l : List Int) (w : World) (ha : BL w A l) (hc : l.length ≤ c) (hm : l.length ≤ maxLen) (hmc : c ≤ maxLen) :
    Calls Try.prog 24 #[.slice A l.length c] w (DrewL w) := by
  obtain ⟨i0, hi0, hz0, hz1, hz2⟩ := info_parts acp_info
  go_enter Try.func24, Try.ntmps24
  go_wp2_with fail
  refine (l6Open_any _ _ _ _ ha hc hm hmc).mono ?_
  rintro e w0 ⟨rfl, hr0, b0⟩
  have hlt0 := hr0.lt
  have hg1 := World.grownBy_alloc w0 (.cells #[] 24) (some w.heap.size)
  have hr1 := hr0.below ((Below.refl _ w0).alloc (Nat.le_refl _) (.cells #[] 24))
  have ho1 : OA (w0.alloc (.cells #[] 24)) w0.heap.size (some ⟨w0.heap.size, 0, none⟩) 0 [] := World.ownsRow_made w0 #[] 0 (Nat.le_refl _) (by unfold maxLen; omega) (by simp)
  clear ha hm hc hmc
  go_wp2_with fail
  generalize w0.alloc (.cells #[] 24) = w1 at *
  refine (pickX _ _ 5 _ hr1 (by omega) (by omega) (by omega)).mono ?_
  rintro e w2 ⟨x, x0, x1, rfl, hr2, hg2⟩
  obtain ⟨m, rfl⟩ := Int.eq_ofNat_of_zero_le x0
  have H0 := Lib.hid (And.intro (kept_far3 ho1 hg2 hlt0) (And.intro hr2 (grown_trans hg1 hg2)))
  clear ho1 hr1 hg1 hr2 hg2 hr0
  go_wp2
  go_loopw [5, 6] (fun v i wr => ∃ (l : List Ac) (n q : Nat) (A : Option Addr) (c : Nat), i = .int .i64 n ∧ v = .slice A l.length c ∧ n + l.length ≤ 4 ∧ OA wr w0.heap.size A c l ∧ RdX wr w.heap.size q ∧ q ≤ 10 + 10 * l.length ∧ w0.grownBy wr (some w.heap.size) ∧ ∃ g, A = some ⟨g, 0, none⟩) (fun _ i _ => (intOf i).toNat)
  case atStart => exact ⟨[], m, 1, _, _, rfl, rfl, by simp; omega, H0.out.1, H0.out.2.1, by simp, H0.out.2.2, _, rfl⟩
  case round =>
    clear H0
    obtain ⟨l, n, q, A, c, rfl, rfl, hnl, hown, hrd, hq, hgr, hsm⟩ := hrel
    cases n with
    | succ n =>
      have hn0 : (0 : Int) < ((n + 1 : Nat) : Int) := by omega
      go_wp2_with fail
      refine (l92Acceptor_any _ _ _ hrd (by omega)).mono ?_
      rintro e w3 ⟨P, a, v, q', P0, P7, a0, a7, v0, v7, rfl, hr3, hq', hg3⟩
      have hown3 := kept_far3 hown hg3 hlt0
      have hgr3 := grown_trans hgr hg3
      have hg3s := hgr3.size
      have hv : ∀ k, (Value.slice A l.length c).ownBlock = some k → w0.heap.size ≤ k := fun k hk => (World.ownsRow.lt hown3 k hk).1
      clear hown hrd hgr hg3
      unfold AVal
      go_wp2_with (at_builtin; refine wpList_append_own _ rfl (.tmp 16) (.tmp 19) 35 rfl w0.heap.size 24 i0 (AVal 0 0 0) 3 24 Try.underlying35 hi0 hz0 hz1 hz2 rfl (by decide) _ _ _ rfl (World.ownsRow.alloc hown3 _) ⟨w3.heap.size, 0, none⟩ 1 1 [.int .i64 P, .int .i64 a, .int .i64 v] rfl rfl three_new (ints_oneCell .i64 [P, a, v]) (by unfold maxLen; omega) (by omega) (by simp; omega) ?_)
      intro v' w4 ho4 hg4 _
      obtain ⟨A4, c4, rfl, ho5, hr5, hg5⟩ := step_app3 (x := (P, a, v)) hlt0 hgr3 hr3 hv ho4 hg4
      obtain ⟨g4, hg4e, _⟩ := own_form ho5 (by simp)
      have D := Lib.hid (And.intro ho5 (And.intro hr5 (And.intro hg5 (show ∃ g, A4 = some ⟨g, 0, none⟩ from ⟨g4, hg4e⟩))))
      clear hg4e
      have hll : (l ++ [((P, a, v) : Ac)]).length = l.length + 1 := by simp
      have hn1 : ((n + 1 : Nat) : Int) - 1 = (n : Int) := by omega
      clear ho4 hg4 ho5 hr5 hg5 hown3 hr3 hgr3
      generalize l ++ [((P, a, v) : Ac)] = l2 at *
      go_wp2
      go_roundw
      case rel => exact ⟨l2, n, q', A4, c4, by go_num, rfl, by omega, D.out.1, D.out.2.1, by omega, D.out.2.2.1, D.out.2.2.2⟩
      case measure => simp [intOf]
    | zero =>
      go_wp2_with fail
      refine (pickX _ _ 9 _ hrd (by omega) (by omega) (by omega)).mono ?_
      rintro e w3 ⟨y, y0, y1, rfl, hr3, hg3⟩
      have hown3 := kept_far3 hown hg3 hlt0
      have hgr3 := grown_trans hgr hg3
      clear hown hrd hgr hg3
      go_wp2_with fail
      refine (pickX _ _ 24 _ hr3 (by omega) (by omega) (by omega)).mono ?_
      rintro e w4 ⟨z, z0, z1, rfl, hr4, hg4⟩
      have hown4 := kept_far3 hown3 hg4 hlt0
      have hgr4 := grown_trans hgr3 hg4
      have B4 : Below w.heap.size w w4 := b0.grown hgr4 b0.size (fun k hk => by injection hk with hk; omega)
      obtain ⟨z3, z4⟩ := quo_small z0 z1
      have D := Lib.hid (And.intro (OA.al hown4) B4)
      clear hown3 hr3 hgr3 hown4 hr4 hgr4 hg4 B4 b0
      go_wp2
      go_ret2
      exact ⟨l, 1 + y - z / 23 * 9, A, c, by omega, by omega, by omega, rfl, D.out.1, D.out.2, hsm⟩
end Go.Proofs.Ytndgmglelogegaa
