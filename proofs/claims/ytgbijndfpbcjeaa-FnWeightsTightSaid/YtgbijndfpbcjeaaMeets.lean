/- Whether a set meets every quorum, and the maker of the iterator over subsets: the program's, by their contracts. -/
import Derived.Test.YtgbijndfpbcjeaaIter
namespace Go.Proofs.Ytgbijndfpbcjeaa
open Go.RowKit

theorem hits_step {K : List Nat} {k m s : Nat} (h : K[k]? = some m) : hitsQ (K.take (k + 1)) s = (hitsQ (K.take k) s && !((m &&& s) == 0)) := by
  simp [hitsQ, List.take_add_one, h]

set_option maxRecDepth 100000 in
set_option maxHeartbeats 800000 in
theorem meets_any (A : Option Addr) (c : Nat) (K : List Nat) (s : Nat) (w : World) (ha : IB w A K) (hl : K.length ≤ 1048576) (hK : Msk K) (hs : s < 64) :
    Calls Try.prog 67 #[.slice A K.length c, .int .u8 s] w fun e w' => e = .returned (.bool (hitsQ K s)) ∧ w = w' := by
  go_enter Try.func67, Try.ntmps67
  go_wp2
  go_loop [9] (fun i => ∃ k : Nat, k ≤ K.length ∧ i = .int .i64 k ∧ Hid (hitsQ (K.take k) s = true)) (fun i => K.length - (intOf i).toNat)
  case atStart => exact ⟨0, Nat.zero_le _, rfl, by show _ = _; simp [hitsQ]⟩
  case round =>
    obtain ⟨k, hk, rfl, hnot⟩ := hrel
    by_cases hlt : k < K.length
    · obtain ⟨b, off, m, rfl, hx, hc⟩ := ha.at_ hlt
      have hm := hK m (List.mem_of_getElem? hx)
      by_cases h0 : m &&& s = 0
      · have H := Lib.hid (show hitsQ K s = false by
          rw [hitsQ, List.all_eq_false]
          exact ⟨m, List.mem_of_getElem? hx, by simp [h0]⟩)
        have h0b : (((m &&& s : Nat) : Int) == 0) = true := by simp [h0]
        clear hx hnot h0
        generalize hms : m &&& s = ms at *
        have HMS := Lib.hid hms
        clear hms
        go_wp2_with fail
        refine (intersect_bits _ _ _ hm hs).mono ?_
        rintro e w' ⟨he, rfl⟩
        rw [HMS.out] at he
        subst he
        go_wp2
        go_ret
        exact ⟨ret_bool H.out.symm, rfl⟩
      · have H := Lib.hid (show hitsQ (K.take (k + 1)) s = true by rw [hits_step hx, hnot.out]; simp [h0])
        have h0b : (((m &&& s : Nat) : Int) == 0) = false := beq_eq_false_iff_ne.2 (by omega)
        clear hx hnot h0
        generalize hms : m &&& s = ms at *
        have HMS := Lib.hid hms
        clear hms
        go_wp2_with fail
        refine (intersect_bits _ _ _ hm hs).mono ?_
        rintro e w' ⟨he, rfl⟩
        rw [HMS.out] at he
        subst he
        go_wp2
        go_round
        case rel => exact ⟨k + 1, by omega, by go_num, H.out⟩
        case measure => simp [intOf]; omega
    · have hkl : k = K.length := by omega
      subst hkl
      have H := Lib.hid (show hitsQ K s = true by have := hnot.out; rwa [List.take_length] at this)
      clear hnot
      go_wp2
      go_ret
      exact ⟨ret_bool H.out.symm, rfl⟩

set_option maxRecDepth 100000 in
set_option maxHeartbeats 400000 in
theorem subsets_any (s : Nat) (w : World) :
    Calls Try.prog 98 #[.int .u8 s] w fun e w' => e = .returned (.func (.func 110) #[] #[.pointer (some ⟨w.heap.size, 0, none⟩)]) ∧ w' = w.alloc (.cells #[.int .u8 s] 59) := by
  go_enter Try.func98, Try.ntmps98
  go_wp2
  go_ret
  exact ⟨rfl, rfl⟩
end Go.Proofs.Ytgbijndfpbcjeaa
