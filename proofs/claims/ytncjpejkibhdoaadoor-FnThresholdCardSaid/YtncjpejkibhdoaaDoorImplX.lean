/- The program's functions of trees by their contracts. -/
import Derived.Test.YtncjpejkibhdoaaDoorVal
import Derived.Test.YtncjpejkibhdoaaDoorSem
import Derived.Test.YtncjpejkibhdoaaDoorImpl
namespace Go.Proofs.YtncjpejkibhdoaaDoor
open Go.RowKit

theorem as_mem_yes (v : Value) (w : World) : (Instr.typeAssert (.iface 47 v) 57 47 true).run Tryd.prog w = .ok (.tuple #[v, .bool true]) w := by kernel_rfl
theorem as_mem_no (v : Value) (w : World) : (Instr.typeAssert (.iface 43 v) 57 47 true).run Tryd.prog w = .ok (.tuple #[.pointer none, .bool false]) w := by kernel_rfl
theorem as_thr_yes (v : Value) (w : World) : (Instr.typeAssert (.iface 43 v) 57 43 true).run Tryd.prog w = .ok (.tuple #[v, .bool true]) w := by kernel_rfl
theorem as_thr_no (v : Value) (w : World) : (Instr.typeAssert (.iface 47 v) 57 43 true).run Tryd.prog w = .ok (.tuple #[.pointer none, .bool false]) w := by kernel_rfl

theorem VL.at_ {w : World} {Q : Nat → Prop} {A : Option Addr} {vs : List Value} {j : Nat} {u : Value} (h : VL w Q A vs) (hj : vs[j]? = some u) : ∃ g off, A = some ⟨g, off, none⟩ ∧ w.cell? ⟨g, off + j, none⟩ = some u := by
  rcases h with rfl | ⟨g, off, rfl, _, _, hc⟩
  · simp at hj
  · exact ⟨g, off, rfl, hc j u hj⟩
/-- The operand j of a threshold in memory. -/
theorem op_at {w : World} {Q : Nat → Prop} {A : Option Addr} {es : List Ex} {vs : List Value} {j : Nat} (hV : VL w Q A vs) (hT : TrL w Q es vs) (hj : j < es.length) :
    ∃ y u g off, es[j]? = some y ∧ A = some ⟨g, off, none⟩ ∧ w.cell? ⟨g, off + j, none⟩ = some u ∧ Tr w Q y u := by
  obtain ⟨y, hy⟩ : ∃ y, es[j]? = some y := ⟨_, List.getElem?_eq_getElem hj⟩
  obtain ⟨u, hu, ht⟩ := TrL.at_ es vs hT j y hy
  obtain ⟨g, off, hA, hc⟩ := hV.at_ hu
  exact ⟨y, u, g, off, hy, hA, hc, ht⟩

set_option maxRecDepth 100000 in
set_option maxHeartbeats 3200000 in
theorem membersOf_any (n : Nat) : ∀ (x : Ex) (v : Value) (Q : Nat → Prop) (w : World), (tx x).length ≤ n → wf x → Tr w Q x v →
    Calls Tryd.prog 28 #[v] w fun e w' => e = .returned (.int .u8 (ms x)) ∧ w = w' := by
  induction n with
  | zero => intro x v Q w h; have := tx_pos x; omega
  | succ n ih =>
    intro x v Q w hn hw ht
    cases x with
    | mem m =>
      simp only [Tr] at ht
      obtain ⟨b, rfl, _, hb⟩ := ht
      simp only [wf] at hw
      have c0 : w.cell? ⟨b, 0, none⟩ = some (.int .i64 m) := by rw [cell_of_row w b 0 _ _ (0, 0) hb]; rfl
      have a1 := as_mem_yes
      have HR := Lib.hid (show (2 ^ (m - 1) : Int) = (ms (.mem m) : Int) by simp [ms])
      generalize ms (.mem m) = R at *
      obtain ⟨hm1, hm6⟩ := hw
      clear ih hb
      go_enter Tryd.func28, Tryd.ntmps28
      go_wp2_with (go_at_call 33; refine (with_any 0 _ _ (by omega) (by omega) (by omega)).mono ?_; rintro e w' ⟨rfl, rfl⟩)
      go_ret
      exact ⟨ret_int HR.out, rfl⟩
    | thr k es =>
      simp only [Tr] at ht
      obtain ⟨b, A, c, vs, rfl, _, hb, hV, hT⟩ := ht
      have hat : ∀ (j : Nat) (y : Ex), es[j]? = some y → wf y ∧ (tx y).length ≤ n := fun j y h => by
        have h1 := tx_at (k := k) h
        exact ⟨wf_at hw h, by omega⟩
      simp only [wf] at hw
      have c1 : w.cell? ⟨b, 1, none⟩ = some (.slice A es.length c) := by rw [cell_of_row w b 1 _ _ (0, 0) hb]; rfl
      have a1 := as_mem_no
      have a2 := as_thr_yes
      have HR := Lib.hid (show ms (.thr k es) = msL es by simp only [ms])
      have HA := Lib.hid hat
      have h6 := hw.2.2.1
      have HV := Lib.hid hV
      have HT := Lib.hid hT
      clear hb hat hw hV hT
      go_enter Tryd.func28, Tryd.ntmps28
      go_wp2_with fail
      go_loop [3, 26] (fun s i => ∃ j m : Nat, j ≤ es.length ∧ i = .int .i64 j ∧ s = .int .u8 (m : Int) ∧ m < 64 ∧ Hid (m ||| msL (es.drop j) = msL es)) (fun _ i => es.length - (intOf i).toNat)
      case atStart => exact ⟨0, 0, Nat.zero_le _, rfl, rfl, by omega, Lib.hid (by rw [List.drop_zero]; simp)⟩
      case round =>
        obtain ⟨j, m, hj, rfl, rfl, hm, hmx⟩ := hrel
        by_cases hlt : j < es.length
        · obtain ⟨y, u, g, off, hy, rfl, hc, ht⟩ := op_at HV.out HT.out hlt
          obtain ⟨hwy, hyn⟩ := HA.out j y hy
          have hmx' := hmx.out
          rw [drop_c hy] at hmx'
          simp only [msL] at hmx'
          have HI := Lib.hid (ih y u Q w hyn hwy ht)
          have HM := Lib.hid hmx'
          have hy64 := ms_lt y hwy
          have h64 := Nat.or_lt_two_pow (n := 6) hm hy64
          clear hmx hmx' hy hwy hyn ih ht HA HV HT
          generalize ms y = my at *
          go_wp2_with (first
            | (go_at_call 28; refine HI.out.mono ?_; rintro e w' ⟨rfl, rfl⟩)
            | (go_at_call 36; refine (union_bits _ _ _ hm hy64).mono ?_; rintro e w' ⟨rfl, rfl⟩)
            | fail)
          go_round
          case rel => exact ⟨j + 1, m ||| my, by omega, by go_num, rfl, h64, Lib.hid (by have := HM.out; rw [Nat.or_assoc]; exact this)⟩
          case measure => simp [intOf]; omega
        · have HE := Lib.hid (show m = ms (.thr k es) by rw [HR.out]; have := hmx.out; rw [List.drop_of_length_le (by omega)] at this; simpa [msL] using this)
          clear hmx ih HA HV HT
          go_wp2_with fail
          go_ret
          exact ⟨by rw [← HE.out]; rfl, rfl⟩

set_option maxRecDepth 100000 in
set_option maxHeartbeats 3200000 in
theorem depthOf_any (n : Nat) : ∀ (x : Ex) (v : Value) (Q : Nat → Prop) (w : World), (tx x).length ≤ n → n ≤ 1000 → wf x → Tr w Q x v →
    Calls Tryd.prog 29 #[v] w fun e w' => e = .returned (.int .i64 (dep x)) ∧ w = w' := by
  induction n with
  | zero => intro x v Q w h; have := tx_pos x; omega
  | succ n ih =>
    intro x v Q w hn h1000 hw ht
    cases x with
    | mem m =>
      simp only [Tr] at ht
      obtain ⟨b, rfl, _, hb⟩ := ht
      have a1 := as_mem_yes
      have HR := Lib.hid (show (0 : Int) = (dep (.mem m) : Int) by simp [dep])
      clear ih hb
      go_enter Tryd.func29, Tryd.ntmps29
      go_wp2_with fail
      go_ret
      exact ⟨ret_int HR.out, rfl⟩
    | thr k es =>
      simp only [Tr] at ht
      obtain ⟨b, A, c, vs, rfl, _, hb, hV, hT⟩ := ht
      have hat : ∀ (j : Nat) (y : Ex), es[j]? = some y → wf y ∧ (tx y).length ≤ n ∧ dep y ≤ n := fun j y h => by
        have h1 := tx_at (k := k) h
        have h2 := dep_len y
        exact ⟨wf_at hw h, by omega, by omega⟩
      simp only [wf] at hw
      have c1 : w.cell? ⟨b, 1, none⟩ = some (.slice A es.length c) := by rw [cell_of_row w b 1 _ _ (0, 0) hb]; rfl
      have a1 := as_mem_no
      have a2 := as_thr_yes
      have HR := Lib.hid (show dep (.thr k es) = depL es by simp only [dep])
      have HA := Lib.hid hat
      have h6 := hw.2.2.1
      have HV := Lib.hid hV
      have HT := Lib.hid hT
      clear hb hat hw hV hT
      go_enter Tryd.func29, Tryd.ntmps29
      go_wp2_with fail
      go_loop [3, 20] (fun d i => ∃ j dd : Nat, j ≤ es.length ∧ i = .int .i64 j ∧ d = .int .i64 dd ∧ dd ≤ 1000 ∧ Hid (max dd (depL (es.drop j)) = depL es)) (fun _ i => es.length - (intOf i).toNat)
      case atStart => exact ⟨0, 0, Nat.zero_le _, rfl, rfl, by omega, Lib.hid (by rw [List.drop_zero]; simp)⟩
      case round =>
        obtain ⟨j, dd, hj, rfl, rfl, hdd, hmx⟩ := hrel
        by_cases hlt : j < es.length
        · obtain ⟨y, u, g, off, hy, rfl, hc, ht⟩ := op_at HV.out HT.out hlt
          obtain ⟨hwy, hyn, hyd⟩ := HA.out j y hy
          have hmx' := hmx.out
          rw [drop_c hy] at hmx'
          simp only [depL] at hmx'
          have HI := Lib.hid (ih y u Q w hyn (by omega) hwy ht)
          have HM := Lib.hid hmx'
          clear hmx hmx' hy hwy hyn ih ht HA HV HT
          generalize dep y = dy at *
          by_cases hgt : dd < 1 + dy
          · have hg : (dd : Int) < 1 + (dy : Int) := by omega
            go_wp2_with (go_at_call 29; refine HI.out.mono ?_; rintro e w' ⟨rfl, rfl⟩)
            go_round
            case rel => exact ⟨j + 1, 1 + dy, by omega, by go_num, by go_num, by omega, Lib.hid (by rw [← HM.out]; omega)⟩
            case measure => simp [intOf]; omega
          · have hg : ¬ (dd : Int) < 1 + (dy : Int) := by omega
            go_wp2_with (go_at_call 29; refine HI.out.mono ?_; rintro e w' ⟨rfl, rfl⟩)
            go_round
            case rel => exact ⟨j + 1, dd, by omega, by go_num, rfl, by omega, Lib.hid (by rw [← HM.out]; omega)⟩
            case measure => simp [intOf]; omega
        · have HE := Lib.hid (show dd = dep (.thr k es) by rw [HR.out]; have := hmx.out; rw [List.drop_of_length_le (by omega)] at this; simpa [depL] using this)
          clear hmx ih HA HV HT
          go_wp2_with fail
          go_ret
          exact ⟨by rw [← HE.out]; rfl, rfl⟩
end Go.Proofs.YtncjpejkibhdoaaDoor
