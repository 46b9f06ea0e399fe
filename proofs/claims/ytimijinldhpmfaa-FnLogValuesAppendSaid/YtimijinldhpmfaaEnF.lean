/- The laws' helpers on lists of LogEntry: copied, compared, marked, by their contracts. -/
import Derived.Test.YtimijinldhpmfaaEnA
import Derived.Deep.RegionLaw
import Derived.BigQuiet
namespace Go.Proofs.Ytimijinldhpmfaa
open Go.RowKit

theorem en_info : (Try.prog.info? 28).map (fun i => (i.zero, i.size, i.bytes)) = some (some (.agg #[.int .i64 0, .int .i64 0]), 2, 16) := by kernel_rfl
theorem results_1en {fn : Func} {p : Tmp} {ty : TypeId} (h : fn.results = #[.cell p ty]) (tmps : Array Value) (P : Program) (w : World) :
    (results fn tmps).run P w = ((asAddr (tmps.getD p undef)).run P w).andThen fun a w₁ => (loadVar ty a).run P w₁ := by
  simp only [results, h]
  simp [Sem.run_bind, Result.andThen]
theorem res_toEn {W : World} {b : Nat} {x : En} (tmps : Array Value) (h2 : tmps.getD 2 undef = .pointer (some ⟨b, 0, none⟩)) (h : AFEn W b x) :
    (results Try.f38 tmps).run Try.prog W = .ok (.agg #[.int .i64 x.1, .int .i64 x.2]) W := by
  obtain ⟨q0, q1⟩ := h.c
  rw [results_1en rfl, h2]
  go_simp
theorem toEn_any (x : En) (w : World) :
    Calls Try.prog 38 #[.agg #[.int .i64 x.1, .int .i64 x.2]] w fun e w' => e = .returned (.agg #[.int .i64 x.1, .int .i64 x.2]) ∧ Below w.heap.size w w' := by
  obtain ⟨a, b⟩ := x
  go_enter Try.func38, Try.ntmps38
  go_wp2
  refine bodyPost_ret (res_toEn (x := (a, b)) _ rfl (AFEn.alloc (by simpa using AFEn.new (w.alloc _) (a, b) _) _)) rfl ?_
  exact ⟨rfl, (((Below.refl _ w).alloc (Nat.le_refl _) _).alloc (by simp) _).alloc (by simp; omega) _⟩
theorem eqEn_same (x : En) (w : World) :
    Calls Try.prog 58 #[.agg #[.int .i64 x.1, .int .i64 x.2], .agg #[.int .i64 x.1, .int .i64 x.2]] w fun e w' => e = .returned (.bool true) ∧ Below w.heap.size w w' := by
  obtain ⟨a, b⟩ := x
  go_enter Try.func58, Try.ntmps58
  go_wp2
  go_ret
  exact ⟨rfl, ((Below.refl _ w).alloc (Nat.le_refl _) _).alloc (by simp) _⟩

set_option maxRecDepth 100000 in
set_option maxHeartbeats 1600000 in
theorem toEnS_own (A : Option Addr) (c : Nat) (l : List En) (w : World) (ha : EnL w A l) (hl : l.length ≤ 1048576) :
    Calls Try.prog 36 #[.slice A l.length c] w fun e w' =>
      ∃ g, e = .returned (.slice (some ⟨g, 0, none⟩) l.length l.length) ∧ OEn w' w.heap.size w'.heap.size (some ⟨g, 0, none⟩) l.length l ∧ Below w.heap.size w w' := by
  obtain ⟨i0, hi0, hz0, hz1, hz2⟩ := info_parts en_info
  go_enter Try.func36, Try.ntmps36
  go_wp2_with (at_make; refine wpList_make_full _ rfl (.tmp 6) (.tmp 6) 23 rfl w.heap.size 28 i0 (.agg #[.int .i64 0, .int .i64 0]) 2 Try.underlying23 hi0 hz0 hz1 .i64 .i64 _ _ l.length rfl rfl rfl rfl (by rw [hz2]; omega) (by unfold maxLen; omega) (Nat.le_refl _) ?_)
  intro w1 hown hgrow
  have hb1 : Below w.heap.size w w1 := (Below.refl _ _).grown hgrow (Nat.le_refl _) (by simp)
  have H0 := Lib.hid (And.intro (RWEn.made (l := l) hown) hb1)
  clear hgrow hown hb1
  go_wp2
  go_loopw [4] (fun i wr => ∃ k : Nat, k ≤ l.length ∧ i = .int .i64 k ∧ RWEn wr w.heap.size l.length l k ∧ Below w.heap.size w wr) (fun i _ => l.length - (intOf i).toNat)
  case atStart => exact ⟨0, Nat.zero_le _, rfl, H0.out.1, H0.out.2⟩
  case round =>
    clear H0
    obtain ⟨k, hk, rfl, hown, hbel⟩ := hrel
    by_cases hlt : k < l.length
    · obtain ⟨b, off, x, rfl, hx, c0, c1⟩ := (ha.below hbel).at_ hlt
      have HX := Lib.hid hx
      have hki : (0 : Int) ≤ (k : Int) := by omega
      have hki2 : (k : Int) < (l.length : Int) := by omega
      clear hx
      go_wp2_with fail
      refine (toEn_any x _).mono ?_
      rintro e w2 ⟨rfl, b2⟩
      have R := hown.below b2
      have HB := below_step hbel b2
      obtain ⟨u0, d0⟩ := R.cellAt (j := k * 2) (by omega)
      obtain ⟨u1, d1⟩ := R.cellAt (j := k * 2 + 1) (by omega)
      have z0 := R.fz (k * 2)
      have z1 := R.fz (k * 2 + 1)
      have N := Lib.hid (And.intro (R.next HX.out hlt) (RWEn.nextB (k := k) HB (Nat.le_refl _) x))
      clear R HB hbel b2 hown c0 c1 HX
      go_wp2
      go_roundw
      case rel => exact ⟨k + 1, by omega, by go_num, N.out.1, N.out.2⟩
      case measure => simp [intOf]; omega
    · have hkl : k = l.length := by omega
      subst hkl
      obtain ⟨T, ho⟩ := hown.own (Nat.le_refl _) (by unfold maxLen; omega)
      have HR := Lib.hid (OEn.of_new ho)
      clear hown ho
      go_wp2
      go_ret
      exact ⟨_, rfl, HR.out, hbel⟩

theorem szEn_any (A : Option Addr) (c : Nat) (l : List En) (w : World) (hm : l.length ≤ maxLen) :
    Calls Try.prog 35 #[.slice A l.length c, .int .i64 1048576] w fun e w' => ∃ r : Int, e = .returned (.int .i64 r) ∧ (0 ≤ r ↔ l.length ≤ 1048576) ∧ w = w' := by
  unfold maxLen at hm
  by_cases h : (1048576 : Int) - (l.length : Int) < 0
  · have e1 : decide ((1048576 : Int) - (l.length : Int) < 0) = true := by simpa using h
    clear h
    go_enter Try.func35, Try.ntmps35
    go_wp2
    go_ret
    exact ⟨-1, rfl, by simp at e1; omega, rfl⟩
  · have e1 : decide ((1048576 : Int) - (l.length : Int) < 0) = false := by simpa using h
    clear h
    go_enter Try.func35, Try.ntmps35
    go_wp2
    go_ret
    exact ⟨_, rfl, by simp at e1; omega, rfl⟩

set_option maxRecDepth 100000 in
set_option maxHeartbeats 1600000 in
theorem eqEnS_yes (A B : Option Addr) (c d : Nat) (l : List En) (w : World) (ha : EnL w A l) (hb : EnL w B l) (hl : l.length ≤ 1048577) :
    Calls Try.prog 37 #[.slice A l.length c, .slice B l.length d] w fun e w' => e = .returned (.bool true) ∧ Below w.heap.size w w' := by
  go_enter Try.func37, Try.ntmps37
  go_wp2
  go_loopw [5] (fun i wr => ∃ k : Nat, k ≤ l.length ∧ i = .int .i64 k ∧ Below w.heap.size w wr) (fun i _ => l.length - (intOf i).toNat)
  case atStart => exact ⟨0, Nat.zero_le _, rfl, Below.refl _ w⟩
  case round =>
    obtain ⟨k, hk, rfl, hbel⟩ := hrel
    by_cases hlt : k < l.length
    · obtain ⟨b, off, x, rfl, hx, c0, c1⟩ := (ha.below hbel).at_ hlt
      obtain ⟨b', off', x', rfl, hx', c0', c1'⟩ := (hb.below hbel).at_ hlt
      obtain rfl : x = x' := by rw [hx] at hx'; exact Option.some.inj hx'
      have hki : (0 : Int) ≤ (k : Int) := by omega
      have hki2 : (k : Int) < (l.length : Int) := by omega
      clear hx hx'
      have C := eqEn_same x
      go_wp2
      go_region_law (first
        | (go_simp; go_at_call 58; refine (C _).mono ?_; rintro e w1 ⟨rfl, b1⟩; have B1 : Below wr.heap.size wr w1 := ⟨b1.os, b1.tape, b1.output, b1.size, b1.block⟩)
        | fail)
      all_goals (
        have HB := Lib.hid (below_step hbel B1)
        clear b1 B1 hbel C c0 c1 c0' c1'
        go_wp2
        go_roundw
        case rel => exact ⟨k + 1, by omega, by go_num, HB.out⟩
        case measure => simp [intOf]; omega)
    · have hkl : k = l.length := by omega
      subst hkl
      go_wp2
      go_ret
      exact ⟨rfl, hbel⟩

def markEn1 (k : Nat) : En := ((k : Int), (k : Int) + 1)
def marksEn (k n : Nat) : List En := (List.range n).map fun i => markEn1 (k + i * 2)
theorem marksEn_len (k n : Nat) : (marksEn k n).length = n := by simp [marksEn]
theorem marksEn_at (k n j : Nat) (h : j < n) : (marksEn k n)[j]? = some (markEn1 (k + j * 2)) := by simp [marksEn, h]
def mkEn (l : List En) (k j : Nat) : List En := marksEn k j ++ l.drop j
theorem mkEn_len {l : List En} {k j : Nat} (h : j ≤ l.length) : (mkEn l k j).length = l.length := by simp [mkEn, marksEn_len]; omega
theorem mkEn_set (l : List En) (k j : Nat) (h : j < l.length) : (mkEn l k j).set j (markEn1 (k + j * 2)) = mkEn l k (j + 1) := by
  unfold mkEn
  rw [List.set_append_right _ _ (by simp [marksEn_len])]
  simp [marksEn, List.range_succ]
  rw [List.drop_eq_getElem_cons h]
  rfl
theorem mkEn_none (l : List En) (k : Nat) : mkEn l k 0 = l := by simp [mkEn, marksEn]
theorem mkEn_all (l : List En) (k n : Nat) (h : n = l.length) : mkEn l k n = marksEn k n := by subst h; simp [mkEn]

set_option maxRecDepth 100000 in
set_option maxHeartbeats 800000 in
theorem markEnS_own (lo hi : Nat) (A : Option Addr) (c : Nat) (l : List En) (k : Nat) (K : Int) (hK : K = (k : Int)) (w : World) (ha : OEn w lo hi A c l) (hl : l.length ≤ 1048577) (hk : k ≤ 8388608) :
    Calls Try.prog 39 #[.slice A l.length c, .int .i64 K] w fun e w' =>
      e = .returned (.int .i64 (K + ((l.length * 2 : Nat) : Int))) ∧ OEn w' lo hi A c (marksEn k l.length) ∧ Keep lo hi w w' := by
  subst hK
  obtain ⟨T, ho, hh, hout⟩ := ha
  have H0 := Lib.hid (And.intro ho (And.intro hh hout))
  clear ho hh hout
  go_enter Try.func39, Try.ntmps39
  go_wp2
  go_loopw [1, 5] (fun q i wr => ∃ j : Nat, j ≤ l.length ∧ i = .int .i64 j ∧ q = .int .i64 ((k + j * 2 : Nat) : Int) ∧ wr.ownsRow lo T 2 (.slice A l.length c) l.length (ens (mkEn l k j)) ∧ Hid (w.grownBy wr (Value.slice A l.length c).ownBlock)) (fun _ i _ => l.length - (intOf i).toNat)
  case atStart => exact ⟨0, Nat.zero_le _, rfl, by simp, by rw [mkEn_none]; exact H0.out.1, World.grownBy.refl _ _⟩
  case round =>
    obtain ⟨j, hj, rfl, rfl, hown, hgr⟩ := hrel
    by_cases hlt : j < l.length
    · obtain ⟨g, rfl, hbg, hg⟩ := own_form hown (by omega)
      have hx : ∀ i, i < 2 → ∃ u, wr.cell? ⟨g, j * 2 + i, none⟩ = some u := fun i hi => ⟨_, (hown.cellAt (j * 2 + i) (by omega)).trans (List.getElem?_eq_getElem (by have := hown.1; omega))⟩
      obtain ⟨u0, d0⟩ := hx 0 (by omega)
      obtain ⟨u1, d1⟩ := hx 1 (by omega)
      rw [Nat.add_zero] at d0
      have z0 := hown.frozenAt (j * 2)
      have z1 := hown.frozenAt (j * 2 + 1)
      have hki : (0 : Int) ≤ (j : Int) := by omega
      have hki2 : (j : Int) < (l.length : Int) := by omega
      have S1 := hown.stored (j * 2) (.int .i64 ((k + j * 2 : Nat) : Int))
      have S2 := S1.1.stored (j * 2 + 1) (.int .i64 (((k + j * 2 : Nat) : Int) + 1))
      have he := ens_set (mkEn l k j) j (markEn1 (k + j * 2)) (by rw [mkEn_len hj]; exact hlt)
      rw [mkEn_set l k j hlt] at he
      have R := Lib.hid (And.intro (show _ from he ▸ S2.1) (grown_store (grown_store hgr.out (j * 2) (.int .i64 ((k + j * 2 : Nat) : Int))) (j * 2 + 1) (.int .i64 (((k + j * 2 : Nat) : Int) + 1))))
      clear hown hgr S1 S2 he hx
      go_wp2
      go_roundw
      case rel => exact ⟨j + 1, by omega, by go_num, by go_num, R.out.1, Lib.hid R.out.2⟩
      case measure => simp [intOf]; omega
    · have hkl : j = l.length := by omega
      subst hkl
      rw [mkEn_all l k _ rfl] at hown
      have HR := Lib.hid (show OEn wr lo hi A c (marksEn k l.length) ∧ Keep lo hi w wr from
        ⟨⟨T, by rw [marksEn_len]; exact hown, Nat.le_trans H0.out.2.1 hgr.out.size, fun g hg => H0.out.2.2 g (by rw [marksEn_len] at hg; exact hg)⟩, Keep.of_grown hgr.out fun g hg => H0.out.2.2 g hg⟩)
      clear hown hgr
      go_wp2
      go_ret
      exact ⟨ret_int (by omega), HR.out⟩

set_option maxRecDepth 100000 in
set_option maxHeartbeats 800000 in
theorem heldEnS_any (A : Option Addr) (c n : Nat) (k : Nat) (K : Int) (hK : K = (k : Int)) (w : World) (ha : EnL w A (marksEn k n)) (hl : n ≤ 1048577) (hk : k ≤ 8388608) :
    Calls Try.prog 40 #[.slice A n c, .int .i64 K] w fun e w' =>
      e = .returned (.int .i64 (K + ((n * 2 : Nat) : Int))) ∧ w = w' := by
  subst hK
  go_enter Try.func40, Try.ntmps40
  go_wp2
  go_loopw [1, 5] (fun q i wr => ∃ j : Nat, j ≤ n ∧ i = .int .i64 j ∧ q = .int .i64 ((k + j * 2 : Nat) : Int) ∧ w = wr) (fun _ i _ => n - (intOf i).toNat)
  case atStart => exact ⟨0, Nat.zero_le _, rfl, by simp, rfl⟩
  case round =>
    obtain ⟨j, hj, rfl, rfl, rfl⟩ := hrel
    by_cases hlt : j < n
    · obtain ⟨b, off, x, rfl, hx, c0, c1⟩ := ha.at_ (k := j) (by rw [marksEn_len]; exact hlt)
      rw [marksEn_at k n j hlt] at hx
      injection hx with hx
      subst hx
      simp only [markEn1] at c0 c1
      have hki : (0 : Int) ≤ (j : Int) := by omega
      have hki2 : (j : Int) < (n : Int) := by omega
      go_wp2
      go_roundw
      case rel => exact ⟨j + 1, by omega, by go_num, by go_num, trivial⟩
      case measure => simp [intOf]; omega
    · have hkl : j = n := by omega
      subst hkl
      go_wp2
      go_ret
      exact ⟨ret_int (by omega), rfl⟩
end Go.Proofs.Ytimijinldhpmfaa
