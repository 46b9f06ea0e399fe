/- The reference model's set functions by their contracts. -/
import Derived.Test.YtgbijndfpbcjeaaBits
namespace Go.Proofs.Ytgbijndfpbcjeaa
open Go.RowKit

set_option maxRecDepth 100000 in
set_option maxHeartbeats 400000 in
theorem l6In_yes (n a b : Int) (w : World) (h1 : a ≤ n) (h2 : n ≤ b) :
    Calls Try.prog 79 #[.int .i64 n, .int .i64 a, .int .i64 b] w fun e w' => e = .returned (.bool true) ∧ w' = w := by
  go_enter Try.func79, Try.ntmps79
  go_wp2
  go_ret
  exact ⟨rfl, rfl⟩
set_option maxRecDepth 100000 in
set_option maxHeartbeats 400000 in
theorem l6In_no (n a b : Int) (w : World) (h : n < a ∨ b < n) :
    Calls Try.prog 79 #[.int .i64 n, .int .i64 a, .int .i64 b] w fun e w' => e = .returned (.bool false) ∧ w' = w := by
  by_cases h1 : a ≤ n
  · have hd : decide (a ≤ n) = true := by simp; omega
    have hd2 : decide (n ≤ b) = false := by simp; omega
    go_enter Try.func79, Try.ntmps79
    go_wp2
    go_ret
    exact ⟨rfl, rfl⟩
  · have hd : decide (a ≤ n) = false := by simp; omega
    go_enter Try.func79, Try.ntmps79
    go_wp2
    go_ret
    exact ⟨rfl, rfl⟩

/-- What the scan of SetValid knows of the last member. -/
def Last (l : List Int) (k : Nat) (q : Int) : Prop := (k = 0 ∧ q = 0) ∨ ∃ j, k = j + 1 ∧ l[j]? = some q
theorem vf_step {l : List Int} {k : Nat} {q x : Int} {b : Bool} (hx : l[k]? = some x) (h : vf q (l.drop k) = b) (h1 : q < x) (h2 : x ≤ 6) : vf x (l.drop (k + 1)) = b := by
  rw [drop_at hx] at h
  simpa [vf, h1, h2] using h
theorem vf_stop {l : List Int} {k : Nat} {q x : Int} {b : Bool} (hx : l[k]? = some x) (h : vf q (l.drop k) = b) (h1 : ¬ (q < x ∧ x ≤ 6)) : b = false := by
  rw [drop_at hx] at h
  simp only [vf] at h
  rw [← h]
  have : (decide (q < x) && decide (x ≤ 6)) = false := by simp; omega
  rw [this]; rfl
theorem vf_end {l : List Int} {q : Int} {b : Bool} (h : vf q (l.drop l.length) = b) : b = true := by
  simpa [vf] using h.symm

set_option maxRecDepth 100000 in
set_option maxHeartbeats 1600000 in
theorem specValid_any (A : Option Addr) (c : Nat) (l : List Int) (w : World) (ha : IL w A l) (hl : l.length ≤ 1048576) :
    Calls Try.prog 52 #[.slice A l.length c] w fun e w' => e = .returned (.bool (vld l)) ∧ Below w.heap.size w w' := by
  go_enter Try.func52, Try.ntmps52
  go_wp2
  go_loopw [3] (fun i wr => ∃ (k : Nat) (q : Int), k ≤ l.length ∧ i = .int .i64 k ∧ 0 ≤ q ∧ Hid (Last l k q) ∧ Hid (vf q (l.drop k) = vld l) ∧ Below w.heap.size w wr) (fun i _ => l.length - (intOf i).toNat)
  case atStart => exact ⟨0, 0, Nat.zero_le _, rfl, by omega, .inl ⟨rfl, rfl⟩, rfl, Below.refl _ _⟩
  case round =>
    obtain ⟨k, q, hk, rfl, hq0, hlast, hvf, hbel⟩ := hrel
    by_cases hlt : k < l.length
    · obtain ⟨b, off, x, hA, hx, hc⟩ := (ha.below hbel).at_ hlt
      have HX := Lib.hid hx
      clear hx
      have hki : (0 : Int) ≤ (k : Int) := by omega
      have hki2 : (k : Int) < (l.length : Int) := by omega
      by_cases hin : 1 ≤ x ∧ x ≤ 6
      · obtain ⟨hx1, hx6⟩ := hin
        rcases hlast.out with ⟨h0, rfl⟩ | ⟨j, rfl, hy⟩
        · subst hA
          have H1 := Lib.hid (vf_step HX.out hvf.out (by omega) hx6)
          have H0 := Lib.hid h0
          have hkd : decide (0 < k) = false := by simp; omega
          clear hlast h0
          go_wp2
          go_quiet ((go_at_call 79; exact Calls.quiet_of_same (l6In_yes _ _ _ _ hx1 hx6)))
          go_wp2
          go_roundw
          case rel => exact ⟨k + 1, x, by omega, by go_num, by omega, .inr ⟨k, rfl, HX.out⟩, H1.out, below_drewN hbel _⟩
          case measure => simp [intOf]; omega
        · have hc2 : ∃ b off, A = some ⟨b, off, none⟩ ∧ wr.cell? ⟨b, off + j, none⟩ = some (.int .i64 q) := by
            obtain ⟨b, off, y, hA', hy', hc'⟩ := (ha.below hbel).at_ (k := j) (by omega)
            rw [hy] at hy'; obtain rfl := Option.some.inj hy'
            exact ⟨b, off, hA', hc'⟩
          obtain ⟨b', off', hA', hc'⟩ := hc2
          subst hA
          obtain ⟨rfl, rfl⟩ : b = b' ∧ off = off' := by injection hA' with h; injection h with h1 h2; exact ⟨h1, h2⟩
          clear hA' hy hlast
          have hj0 : (0 : Int) ≤ (j : Int) := by omega
          have hj1 : (j : Int) < (l.length : Int) := by omega
          by_cases hqx : q < x
          · have H1 := Lib.hid (vf_step HX.out hvf.out hqx hx6)
            go_wp2
            go_quiet ((go_at_call 79; exact Calls.quiet_of_same (l6In_yes _ _ _ _ hx1 hx6)))
            go_wp2
            go_roundw
            case rel => exact ⟨j + 1 + 1, x, by omega, by go_num, by omega, .inr ⟨j + 1, rfl, HX.out⟩, H1.out, below_drewN hbel _⟩
            case measure => simp [intOf]; omega
          · have H1 := Lib.hid (vf_stop HX.out hvf.out (by omega))
            go_wp2
            go_quiet ((go_at_call 79; exact Calls.quiet_of_same (l6In_yes _ _ _ _ hx1 hx6)))
            go_wp2
            go_ret
            exact ⟨ret_bool H1.out.symm, below_drewN hbel _⟩
      · subst hA
        have H1 := Lib.hid (vf_stop HX.out hvf.out (by omega))
        have ho : x < 1 ∨ 6 < x := by omega
        go_wp2
        go_quiet ((go_at_call 79; exact Calls.quiet_of_same (l6In_no _ _ _ _ ho)))
        go_wp2
        go_ret
        exact ⟨ret_bool H1.out.symm, below_drewN hbel _⟩
    · have hkl : k = l.length := by omega
      subst hkl
      have H1 := Lib.hid (vf_end hvf.out)
      clear hvf hlast
      go_wp2
      go_ret
      exact ⟨ret_bool H1.out.symm, hbel⟩

theorem specValid_t (A : Option Addr) (c : Nat) (l : List Int) (w : World) (ha : IL w A l) (hl : l.length ≤ 1048576) (hv : vld l = true) :
    Calls Try.prog 52 #[.slice A l.length c] w fun e w' => e = .returned (.bool true) ∧ Below w.heap.size w w' := by
  have := specValid_any A c l w ha hl
  rwa [hv] at this
theorem specValid_f (A : Option Addr) (c : Nat) (l : List Int) (w : World) (ha : IL w A l) (hl : l.length ≤ 1048576) (hv : vld l = false) :
    Calls Try.prog 52 #[.slice A l.length c] w fun e w' => e = .returned (.bool false) ∧ Below w.heap.size w w' := by
  have := specValid_any A c l w ha hl
  rwa [hv] at this

set_option maxRecDepth 100000 in
set_option maxHeartbeats 800000 in
theorem l1Contains_any (A : Option Addr) (c : Nat) (l : List Int) (x : Int) (w : World) (ha : IL w A l) (hl : l.length ≤ 1048576) :
    Calls Try.prog 101 #[.slice A l.length c, .int .i64 x] w fun e w' => e = .returned (.bool (has l x)) ∧ w = w' := by
  go_enter Try.func101, Try.ntmps101
  go_wp2
  go_loop [5] (fun i => ∃ k : Nat, k ≤ l.length ∧ i = .int .i64 k ∧ Hid (has (l.take k) x = false)) (fun i => l.length - (intOf i).toNat)
  case atStart => exact ⟨0, Nat.zero_le _, rfl, by show _ = _; simp [has]⟩
  case round =>
    obtain ⟨k, hk, rfl, hnot⟩ := hrel
    by_cases hlt : k < l.length
    · obtain ⟨b, off, y, rfl, hy, hc⟩ := ha.at_ hlt
      by_cases hyx : y = x
      · have H := Lib.hid (show has l x = true by subst hyx; simpa [has] using List.mem_of_getElem? hy)
        have hyb : (y == x) = true := by simpa using hyx
        clear hy hnot hyx
        go_wp2
        go_ret
        exact ⟨ret_bool H.out.symm, rfl⟩
      · have H := Lib.hid (show has (l.take (k + 1)) x = false by
          have hn := hnot.out
          have hxy : ¬ x = y := fun h => hyx h.symm
          simp only [has, List.take_add_one, hy, Option.toList_some, List.contains_eq_mem, List.mem_append, List.mem_singleton, decide_eq_false_iff_not, hxy, or_false] at hn ⊢
          exact hn)
        have hyb : (y == x) = false := by simpa using hyx
        clear hy hnot hyx
        go_wp2
        go_round
        case rel => exact ⟨k + 1, by omega, by go_num, H.out⟩
        case measure => simp [intOf]; omega
    · have hkl : k = l.length := by omega
      subst hkl
      have H := Lib.hid (show has l x = false by have := hnot.out; rwa [List.take_length] at this)
      clear hnot
      go_wp2
      go_ret
      exact ⟨ret_bool H.out.symm, rfl⟩

theorem l1Contains_t (A : Option Addr) (c : Nat) (l : List Int) (x : Int) (w : World) (ha : IL w A l) (hl : l.length ≤ 1048576) (h : has l x = true) :
    Calls Try.prog 101 #[.slice A l.length c, .int .i64 x] w fun e w' => e = .returned (.bool true) ∧ w = w' := by
  have := l1Contains_any A c l x w ha hl
  rwa [h] at this
theorem l1Contains_f (A : Option Addr) (c : Nat) (l : List Int) (x : Int) (w : World) (ha : IL w A l) (hl : l.length ≤ 1048576) (h : has l x = false) :
    Calls Try.prog 101 #[.slice A l.length c, .int .i64 x] w fun e w' => e = .returned (.bool false) ∧ w = w' := by
  have := l1Contains_any A c l x w ha hl
  rwa [h] at this

end Go.Proofs.Ytgbijndfpbcjeaa
