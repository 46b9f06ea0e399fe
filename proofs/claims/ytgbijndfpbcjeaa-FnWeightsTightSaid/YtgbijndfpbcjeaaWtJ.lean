/- Sums of weighted votes, the program's, by their contracts. -/
import Derived.Test.YtgbijndfpbcjeaaWtI
namespace Go.Proofs.Ytgbijndfpbcjeaa
open Go.RowKit

theorem VB.newV (w : World) (m : Nat) (u : Nat → Int) : VB (w.alloc (.cells #[.int .u8 (m : Int), .int .i64 (u 0), .int .i64 (u 1), .int .i64 (u 2), .int .i64 (u 3), .int .i64 (u 4), .int .i64 (u 5)] 87)) w.heap.size m u := heap_alloc_new w _

set_option maxRecDepth 100000 in
set_option maxHeartbeats 1600000 in
theorem sum_any (v : List Int) (s : Nat) (w : World) (hv : wOk v = true) (hs : s < 64) :
    Calls Try.prog 84 #[VV (posT v v.length) (vt v), .int .u8 s] w fun e w' => e = .returned (.int .i64 (wsum v s)) ∧ Below w.heap.size w w' := by
  have HV := Lib.hid hv
  have hpl := posT_lt v v.length (wOk_len hv).2
  have HS := Lib.hid (wsum_pos hv s)
  have hvb := VB.newV w (posT v v.length) (vt v)
  have hb0 : Below w.heap.size w (w.alloc (.cells #[.int .u8 ((posT v v.length : Nat) : Int), .int .i64 (vt v 0), .int .i64 (vt v 1), .int .i64 (vt v 2), .int .i64 (vt v 3), .int .i64 (vt v 4), .int .i64 (vt v 5)] 87)) := (Below.refl _ w).alloc (Nat.le_refl _) _
  clear hv
  unfold VV
  generalize posT v v.length = pm at *
  go_enter Try.func84, Try.ntmps84
  go_wp2_with fail
  generalize w.alloc (.cells #[.int .u8 ((pm : Nat) : Int), .int .i64 (vt v 0), .int .i64 (vt v 1), .int .i64 (vt v 2), .int .i64 (vt v 3), .int .i64 (vt v 4), .int .i64 (vt v 5)] 87) = w0 at *
  refine (intersect_bits pm s _ hpl hs).mono ?_
  rintro e w' ⟨rfl, rfl⟩
  have hqs : pm &&& s < 64 := Nat.lt_of_le_of_lt Nat.and_le_left hpl
  have HW : Hid (wsum v (pm &&& s) = lsum v (mem (pm &&& s))) := Lib.hid rfl
  generalize pm &&& s = q at *
  go_wp2_with fail
  refine (members_any q _ hqs).mono ?_
  rintro e w1 ⟨A1, c1, rfl, o1, b1⟩
  have hil := (IL.of_own o1).1
  have hvb1 := hvb.below b1
  have hb1 := below_step hb0 b1
  have hml := mem_len q
  have HL := Lib.hid (vld_mem hqs)
  clear o1 hvb hb0 b1
  generalize hmq : mem q = l at *
  have HMQ := Lib.hid hmq
  clear hmq
  go_wp2
  go_loop [5, 14] (fun s i => ∃ (k : Nat) (t : Int), k ≤ l.length ∧ i = .int .i64 k ∧ s = .int .i64 t ∧ Hid (lsum v (l.take k) = t)) (fun _ i => l.length - (intOf i).toNat)
  case atStart => exact ⟨0, 0, Nat.zero_le _, rfl, rfl, (by show _ = _; simp [lsum])⟩
  case round =>
    obtain ⟨k, t, hk, rfl, rfl, hsum⟩ := hrel
    have ht : 0 ≤ t ∧ t ≤ 54 := by rw [← hsum.out]; exact lsum_rng6 HV.out hml k
    by_cases hlt : k < l.length
    · obtain ⟨b, off, x, rfl, hx, hc⟩ := hil.at_ hlt
      have hx6 := vld_at HL.out hx
      have hki : (0 : Int) ≤ (k : Int) := by omega
      have hki2 : (k : Int) < (l.length : Int) := by omega
      have hw9 := wat_rng HV.out x
      have HS2 := Lib.hid (show lsum v (l.take (k + 1)) = t + wat v x by rw [lsum_take hx, hsum.out])
      have hq := hvb1.at_ (j := x.toNat - 1) (by omega)
      have hwx : vt v (x.toNat - 1) = wat v x := rfl
      rw [hwx] at hq
      have hx1 : (x - 1).toNat = x.toNat - 1 := by omega
      have hx2 : (0 : Int) ≤ x - 1 := by omega
      have hx3 : x - 1 < 6 := by omega
      clear hx hsum hwx
      generalize wat v x = y at *
      go_wp2
      go_round
      case rel => exact ⟨k + 1, t + y, by omega, by go_num, by go_num, HS2.out⟩
      case measure => simp [intOf]; omega
    · have hkl : k = l.length := by omega
      subst hkl
      have H := Lib.hid (show wsum v s = t by rw [← HS.out, HW.out]; have := hsum.out; rwa [List.take_length] at this)
      clear hsum
      go_wp2
      go_ret
      exact ⟨ret_int H.out.symm, hb1⟩

theorem pos_63 {v : List Int} (hv : wOk v = true) : wsum v (posT v v.length) = wsum v 63 := by
  have hp := posT_lt v v.length (wOk_len hv).2
  have H : ∀ a : Fin 64, a.val &&& 63 = a.val := by decide +kernel
  have h1 := H ⟨_, hp⟩
  simp only at h1
  rw [← wsum_pos hv 63, h1]

set_option maxRecDepth 100000 in
set_option maxHeartbeats 1600000 in
theorem total_any (v : List Int) (w : World) (hv : wOk v = true) :
    Calls Try.prog 82 #[VV (posT v v.length) (vt v)] w fun e w' => e = .returned (.int .i64 (wsum v 63)) ∧ Below w.heap.size w w' := by
  have hpl := posT_lt v v.length (wOk_len hv).2
  have HS := Lib.hid (pos_63 hv)
  have HC := Lib.hid (fun W => sum_any v (posT v v.length) W hv hpl)
  have hb0 : Below w.heap.size w (w.alloc (.cells #[.int .u8 ((posT v v.length : Nat) : Int), .int .i64 (vt v 0), .int .i64 (vt v 1), .int .i64 (vt v 2), .int .i64 (vt v 3), .int .i64 (vt v 4), .int .i64 (vt v 5)] 87)) := (Below.refl _ w).alloc (Nat.le_refl _) _
  clear hv
  unfold VV at *
  go_enter Try.func82, Try.ntmps82
  go_wp2_with fail
  refine (HC.out _).mono ?_
  rintro e w1 ⟨he, b1⟩
  rw [HS.out] at he
  subst he
  have hb1 := below_step hb0 b1
  go_wp2
  go_ret
  exact ⟨rfl, hb1⟩

set_option maxRecDepth 100000 in
set_option maxHeartbeats 1600000 in
theorem implWV_any (A : Option Addr) (c : Nat) (v : List Int) (w : World) (ha : IL w A v) (hl : v.length ≤ 1048576) :
    Calls Try.prog 44 #[.slice A v.length c] w fun e w' => e = .returned (.bool (wOk v)) ∧ Below w.heap.size w w' := by
  go_enter Try.func44, Try.ntmps44
  go_wp2_with fail
  refine (votesOf_any _ _ _ _ ha hl).mono ?_
  rintro e w1 ⟨b1, ⟨hv, rfl⟩ | ⟨hv, rfl⟩⟩
  · have H := Lib.hid hv
    clear hv
    unfold VV
    go_wp2
    go_ret
    exact ⟨ret_bool H.out.symm, b1.alloc b1.size _⟩
  · have H := Lib.hid hv
    clear hv
    unfold VV
    go_wp2
    go_ret
    exact ⟨ret_bool H.out.symm, b1.alloc b1.size _⟩

set_option maxRecDepth 100000 in
set_option maxHeartbeats 1600000 in
theorem implWSum_any (A B : Option Addr) (c d : Nat) (v l : List Int) (w : World) (ha : IL w A v) (hb : IL w B l) (hlv : v.length ≤ 1048576) (hll : l.length ≤ 1048576) :
    Calls Try.prog 36 #[.slice A v.length c, .slice B l.length d] w fun e w' => e = .returned (.int .i64 (sumR v l)) ∧ Below w.heap.size w w' := by
  go_enter Try.func36, Try.ntmps36
  go_wp2_with fail
  refine (votesOf_any _ _ _ _ ha hlv).mono ?_
  rintro e w1 ⟨b1, ⟨hv, rfl⟩ | ⟨hv, rfl⟩⟩
  · have H := Lib.hid (show sumR v l = -1 by simp [sumR, hv])
    have hb1 := hb.below b1
    have hbz : Below w.heap.size w (w1.alloc (.cells #[.int .u8 0, .int .i64 0, .int .i64 0, .int .i64 0, .int .i64 0, .int .i64 0, .int .i64 0] 87)) := b1.alloc b1.size _
    have hbb := hb.below hbz
    clear hv
    cases hl : vld l
    · have HL := Lib.hid hl
      clear hl
      unfold VV
      go_wp2_with fail
      refine (bitsOf_no _ _ _ _ hbb HL.out hll).mono ?_
      rintro e w' ⟨rfl, rfl⟩
      go_wp2
      go_ret
      exact ⟨ret_int H.out.symm, hbz⟩
    · have HL := Lib.hid hl
      clear hl
      unfold VV
      go_wp2_with fail
      refine (bitsOf_yes _ _ _ _ hbb HL.out).mono ?_
      rintro e w' ⟨rfl, rfl⟩
      go_wp2
      go_ret
      exact ⟨ret_int H.out.symm, hbz⟩
  · have hbz : Below w.heap.size w (w1.alloc (.cells #[.int .u8 ((posT v v.length : Nat) : Int), .int .i64 (vt v 0), .int .i64 (vt v 1), .int .i64 (vt v 2), .int .i64 (vt v 3), .int .i64 (vt v 4), .int .i64 (vt v 5)] 87)) := b1.alloc b1.size _
    have hbb := hb.below hbz
    have HV := Lib.hid hv
    clear hv
    cases hl : vld l
    · have H := Lib.hid (show sumR v l = -1 by simp [sumR, hl])
      have HL := Lib.hid hl
      clear hl
      unfold VV
      go_wp2_with fail
      refine (bitsOf_no _ _ _ _ hbb HL.out hll).mono ?_
      rintro e w' ⟨rfl, rfl⟩
      go_wp2
      go_ret
      exact ⟨ret_int H.out.symm, hbz⟩
    · have H := Lib.hid (show sumR v l = wsum v (msk l) by simp [sumR, hl, HV.out]; exact lsum_msk hl)
      have HL := Lib.hid hl
      have hm := msk_lt hl
      clear hl
      have HC := Lib.hid (fun W => sum_any v (msk l) W HV.out hm)
      unfold VV at *
      go_wp2_with fail
      refine (bitsOf_yes _ _ _ _ hbb HL.out).mono ?_
      rintro e w' ⟨rfl, rfl⟩
      go_wp2_with fail
      refine (HC.out _).mono ?_
      rintro e w2 ⟨rfl, b2⟩
      have hb2 := below_step hbz b2
      go_wp2
      go_ret
      exact ⟨ret_int H.out.symm, hb2⟩

set_option maxRecDepth 100000 in
set_option maxHeartbeats 1600000 in
theorem implWMaj_any (A : Option Addr) (c : Nat) (v : List Int) (w : World) (ha : IL w A v) (hl : v.length ≤ 1048576) :
    Calls Try.prog 34 #[.slice A v.length c] w fun e w' => e = .returned (.int .i64 (majR v)) ∧ Below w.heap.size w w' := by
  go_enter Try.func34, Try.ntmps34
  go_wp2_with fail
  refine (votesOf_any _ _ _ _ ha hl).mono ?_
  rintro e w1 ⟨b1, ⟨hv, rfl⟩ | ⟨hv, rfl⟩⟩
  · have H := Lib.hid (show majR v = 0 by simp [majR, hv])
    have hbz : Below w.heap.size w (w1.alloc (.cells #[.int .u8 0, .int .i64 0, .int .i64 0, .int .i64 0, .int .i64 0, .int .i64 0, .int .i64 0] 87)) := b1.alloc b1.size _
    clear hv
    unfold VV
    go_wp2
    go_ret
    exact ⟨ret_int H.out.symm, hbz⟩
  · have hbz : Below w.heap.size w (w1.alloc (.cells #[.int .u8 ((posT v v.length : Nat) : Int), .int .i64 (vt v 0), .int .i64 (vt v 1), .int .i64 (vt v 2), .int .i64 (vt v 3), .int .i64 (vt v 4), .int .i64 (vt v 5)] 87)) := b1.alloc b1.size _
    have H := Lib.hid (show majR v = wsum v 63 / 2 + 1 by simp [majR, hv])
    have hr := wsum_rng hv 63
    have HC := Lib.hid (fun W => total_any v W hv)
    clear hv
    unfold VV at *
    go_wp2_with fail
    refine (HC.out _).mono ?_
    rintro e w2 ⟨rfl, b2⟩
    have hb2 := below_step hbz b2
    generalize wsum v 63 = t at *
    go_wp2
    go_ret
    exact ⟨ret_int H.out.symm, hb2⟩
end Go.Proofs.Ytgbijndfpbcjeaa
