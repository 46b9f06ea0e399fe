/- The walk of the law on the order of replies. -/
import Derived.Test.YtndgmglelogegaaAcpN
import Derived.Test.YtndgmglelogegaaAcpK
namespace Go.Proofs.Ytndgmglelogegaa
open Go.RowKit

theorem OA.below {w w' : World} {base : Nat} {A : Option Addr} {c : Nat} {l : List Ac} (h : OA w base A c l) (hb : Below w.heap.size w w') : OA w' base A c l :=
  World.ownsRow.kept h (row := none) ⟨hb.os, hb.tape, hb.output, hb.size, fun i hi _ => hb.block i hi⟩ (by cases (Value.slice A l.length c).ownBlock <;> simp)
theorem rev_next {l L : List Ac} {m : Nat} {x : Ac} (hx : l[m]? = some x) (hL : L = (l.drop (m + 1)).reverse) : L ++ [x] = (l.drop m).reverse := by
  obtain ⟨hm, rfl⟩ := List.getElem?_eq_some_iff.1 hx
  rw [List.drop_eq_getElem_cons hm, List.reverse_cons, hL]
/-- No positive ballot of the first k is that of x. -/
def Apart (l : List Ac) (k : Nat) (b : Int) : Prop := ∀ (j : Nat) (y : Ac), j < k → l[j]? = some y → y.2.1 = b → ¬ 0 < b
theorem Apart.next {l : List Ac} {k : Nat} {b : Int} {y : Ac} (h : Apart l k b) (hy : l[k]? = some y) (hn : y.2.1 = b → ¬ 0 < b) : Apart l (k + 1) b := by
  intro j z hj hz
  by_cases e : j = k
  · subst e; rw [hy] at hz; injection hz with hz; subst hz; exact hn
  · exact h j z (by omega) hz
theorem once_next {l : List Ac} {m : Nat} {x : Ac} (h : Once l (m + 1)) (hx : l[m]? = some x) (ha : Apart l m x.2.1) : Once l m := by
  intro j k y z hj hk hy hz e
  by_cases q : j = m
  · subst q; rw [hx] at hz; injection hz with hz; subst hz; exact ha k y hk hy e
  · exact h j k y z (by omega) hk hy hz e
/-- Behind an append of one state to a row of the call's own. -/
theorem app_own3 {w w3 w4 : World} {l : List Ac} {v v' : Value} {x : Ac} {o : Obj} (hb : Below w.heap.size w w3) (hv : ∀ k, v.ownBlock = some k → w.heap.size ≤ k)
    (ho : w4.ownsRow w.heap.size 24 3 v' (l.length + 1) (acs l ++ [.int .i64 x.1, .int .i64 x.2.1, .int .i64 x.2.2])) (hg : (w3.alloc o).grownBy w4 v.ownBlock) :
    ∃ A c, v' = .slice A (l ++ [x]).length c ∧ OA w4 w.heap.size A c (l ++ [x]) ∧ Below w.heap.size w w4 := by
  have e : acs l ++ [.int .i64 x.1, .int .i64 x.2.1, .int .i64 x.2.2] = acs (l ++ [x]) := by rw [acs_app]; rfl
  rw [e] at ho
  obtain ⟨A, c, rfl, h1⟩ := own_slice3 (by simp) ho
  exact ⟨A, c, rfl, h1, (hb.alloc hb.size o).grown hg (hb.alloc hb.size o).size hv⟩

set_option maxRecDepth 100000 in
set_option maxHeartbeats 6400000 in
theorem walkChOrder (A : Option Addr) (c : Nat) (l0 : List Int) (w : World) (ha : BL w A l0) (hc : l0.length ≤ c) (hm : l0.length ≤ maxLen) (hmc : c ≤ maxLen) :
    Calls Try.prog 11 #[.slice A l0.length c] w fun e w' => e = .returned (.bool true) ∧ Below w.heap.size w w' := by
  obtain ⟨i0, hi0, hz0, hz1, hz2⟩ := info_parts acp_info
  have hm1 := hm
  unfold maxLen at hm1
  by_cases hl0 : l0.length ≤ 1048576
  · go_enter Try.func11, Try.ntmps11
    go_wp2_with fail
    refine (drawCh_any _ _ _ _ ha hc hm hmc).mono ?_
    rintro e w1 ⟨l, own, A1, c1, hl4, ho8, ho9, rfl, a1, B1, _⟩
    clear ha hm hc hmc
    obtain ⟨⟨r, t⟩, hr⟩ : ∃ r, r = chv l own := ⟨_, rfl⟩
    have HR := Lib.hid hr
    clear hr
    go_wp2_with fail
    refine (sChoose_any _ _ _ own _ a1 (by omega)).mono ?_
    rintro e w2 ⟨rfl, b2⟩
    rw [← HR.out]
    have a2 := a1.below b2
    have B2 := below_step B1 b2
    clear a1 B1 b2
    go_wp2_with fail
    refine (iChoose_any _ _ _ own _ a2 (by omega)).mono ?_
    rintro e w3 ⟨rfl, b3⟩
    rw [← HR.out]
    have a3 := a2.below b3
    have B3 := below_step B2 b3
    clear a2 B2 b3
    cases t with
    | false =>
      clear a3
      go_wp2
      go_ret
      exact ⟨rfl, B3⟩
    | true =>
      have H0 := Lib.hid (show OA (w3.alloc (.cells #[] 24)) w3.heap.size (some ⟨w3.heap.size, 0, none⟩) 0 [] ∧ Below w3.heap.size w3 (w3.alloc (.cells #[] 24)) from ⟨World.ownsRow_made w3 #[] 0 (Nat.le_refl _) (by unfold maxLen; omega) (by simp), (Below.refl _ w3).alloc (Nat.le_refl _) _⟩)
      go_wp2
      go_loopw [9, 10] (fun v i wr => ∃ (n : Nat) (L : List Ac) (A : Option Addr) (c : Nat), n ≤ l.length ∧ L.length + n = l.length ∧ i = .int .i64 ((n : Int) - 1) ∧ v = .slice A L.length c ∧ OA wr w3.heap.size A c L ∧ Hid (L = (l.drop n).reverse) ∧ Hid (Once l n) ∧ Below w3.heap.size w3 wr) (fun _ i _ => (intOf i + 1).toNat)
      case atStart => exact ⟨l.length, [], _, _, Nat.le_refl _, by simp, rfl, rfl, H0.out.1, (by show _ = _; simp), (by show Once l l.length; intro j k x y hj hk hx hy; have := (List.getElem?_eq_some_iff.1 hy).1; omega), H0.out.2⟩
      case round =>
        clear H0
        obtain ⟨n, L, A, c, hn, hLl, rfl, rfl, hown, hL, hO, hbel⟩ := hrel
        cases n with
        | succ m =>
          obtain ⟨b, off, x, rfl, hx, d0, d1, d2⟩ := (a3.below hbel).at_ (show m < l.length by omega)
          have HX := Lib.hid hx
          clear hx
          have hm0 : ((m + 1 : Nat) : Int) - 1 = (m : Int) := by omega
          have hmi : (0 : Int) ≤ (m : Int) := by omega
          have hmi2 : (m : Int) < (l.length : Int) := by omega
          rw [hm0]
          obtain ⟨x0, x1, x2⟩ := x
          have hv : ∀ k, (Value.slice A L.length c).ownBlock = some k → w3.heap.size ≤ k := fun k hk => (World.ownsRow.lt hown k hk).1
          have hbs := hbel.size
          go_wp2_with (at_builtin; refine wpList_append_own _ rfl (.tmp 62) (.tmp 67) 35 rfl w3.heap.size 24 i0 (AVal 0 0 0) 3 24 Try.underlying35 hi0 hz0 hz1 hz2 rfl (by decide) _ _ _ rfl (World.ownsRow.alloc hown _) ⟨wr.heap.size, 0, none⟩ 1 1 [.int .i64 x0, .int .i64 x1, .int .i64 x2] rfl rfl three_new (ints_oneCell .i64 [x0, x1, x2]) (by unfold maxLen; omega) (by omega) (by simp; omega) ?_)
          intro v' w4 ho4 hg4 _
          obtain ⟨A4, c4, rfl, ho5, hb5⟩ := app_own3 (x := (x0, x1, x2)) hbel hv ho4 hg4
          have HD := Lib.hid (And.intro ho5 (And.intro hb5 (rev_next HX.out hL.out)))
          have hll := Lib.hid (show (L ++ [((x0, x1, x2) : Ac)]).length = L.length + 1 by simp)
          clear ho4 hg4 ho5 hb5 hown hL hbel hbs d0 d1 d2 hv
          generalize L ++ [((x0, x1, x2) : Ac)] = L2 at *
          have a4 := a3.below HD.out.2.1
          go_wp2
          go_loopw [11] (fun i wr => ∃ k : Nat, k ≤ m ∧ i = .int .i64 k ∧ Hid (Apart l k x1) ∧ Below w4.heap.size w4 wr) (fun i _ => m - (intOf i).toNat)
          case atStart => exact ⟨0, Nat.zero_le _, rfl, (by show Apart l 0 x1; intro j y hj; omega), Below.refl _ _⟩
          case round =>
            obtain ⟨k, hk, rfl, hap, hbel⟩ := hrel
            by_cases hlt : k < m
            · obtain ⟨b', off', y, hA', hy, e0, e1, e2⟩ := (a4.below hbel).at_ (show k < l.length by omega)
              obtain ⟨rfl, rfl⟩ : b = b' ∧ off = off' := by injection hA' with hA'; injection hA' with h1 h2; exact ⟨h1, h2⟩
              obtain ⟨b'', off'', x', hA'', hx', g0, g1, g2⟩ := (a4.below hbel).at_ (show m < l.length by omega)
              obtain ⟨rfl, rfl⟩ : b = b'' ∧ off = off'' := by injection hA'' with hA''; injection hA'' with h1 h2; exact ⟨h1, h2⟩
              obtain rfl : (x0, x1, x2) = x' := by have := HX.out; rw [hx'] at this; exact (Option.some.inj this).symm
              clear hA' hA'' hx'
              have HY := Lib.hid hy
              clear hy
              obtain ⟨y0, y1, y2⟩ := y
              have hki : (0 : Int) ≤ (k : Int) := by omega
              have hki2 : (k : Int) < (l.length : Int) := by omega
              have hki3 : (k : Int) < (m : Int) := by omega
              by_cases hq : y1 = x1
              · have q1 : (y1 == x1) = true := by simpa using hq
                by_cases hp : 0 < x1
                · clear hq
                  go_wp2
                  go_quiet (fail)
                  go_wp2
                  go_ret
                  exact ⟨rfl, below_drewN (B3.trans ((HD.out.2.1.trans (hbel.mono HD.out.2.1.size)).mono B3.size)) _⟩
                · have HN := Lib.hid (hap.out.next HY.out (fun _ => hp))
                  clear hq hap
                  go_wp2
                  go_quiet (fail)
                  go_wp2
                  go_roundw
                  case rel => exact ⟨k + 1, by omega, by go_num, HN, below_drewN hbel _⟩
                  case measure => simp [intOf]; omega
              · have q1 : (y1 == x1) = false := by simpa using hq
                have HN := Lib.hid (hap.out.next HY.out (fun h => absurd h hq))
                clear hq hap
                go_wp2
                go_quiet (fail)
                go_wp2
                go_roundw
                case rel => exact ⟨k + 1, by omega, by go_num, HN, below_drewN hbel _⟩
                case measure => simp [intOf]; omega
            · have hkm : k = m := by omega
              subst hkm
              have HN := Lib.hid (And.intro (once_next hO.out HX.out hap.out) (And.intro (HD.out.1.below hbel) (below_step HD.out.2.1 hbel)))
              clear hap hbel hO
              go_wp2
              go_roundw
              case rel => exact ⟨k, L2, A4, c4, by omega, by have := hll.out; omega, by first | rfl | go_num, rfl, HN.out.2.1, HD.out.2.2, HN.out.1, HN.out.2.2⟩
              case measure => simp [intOf]
        | zero =>
          have HE := Lib.hid (show chv L own = (r, true) by rw [hL.out, List.drop_zero]; exact chv_rev HR.out.symm hO.out)
          have aL := OA.al hown
          have B4 := B3.trans (hbel.mono B3.size)
          clear hown hL hO hbel a3 B3
          have hz : ¬ (0 : Int) ≤ ((0 : Nat) : Int) - 1 := by omega
          go_wp2_with fail
          refine (iChoose_any _ _ _ own _ aL (by omega)).mono ?_
          rintro e w5 ⟨rfl, b5⟩
          rw [HE.out]
          have B5 := below_step B4 b5
          clear aL b5 B4
          go_wp2
          go_ret
          exact ⟨by simp, B5⟩
  · go_enter Try.func11, Try.ntmps11
    go_wp2
    go_ret
    exact ⟨rfl, Below.refl _ w⟩
end Go.Proofs.Ytndgmglelogegaa
