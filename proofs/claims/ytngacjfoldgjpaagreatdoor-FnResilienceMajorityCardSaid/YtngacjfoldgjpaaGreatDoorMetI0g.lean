/- Smallest quorum, critical members and survival, the program's, by their contracts. -/
import Derived.Test.YtngacjfoldgjpaaGreatDoorArrg
import Derived.Test.YtngacjfoldgjpaaGreatDoorGd
namespace Go.Proofs.YtngacjfoldgjpaaGreatDoor
open Go.RowKit

theorem res_sizes {W : World} {b : Nat} {u : Nat → Nat} (tmps : Array Value) (h2 : tmps.getD 2 undef = .pointer (some ⟨b, 0, none⟩)) (h : AB W b u) :
    (results Tryz.f31 tmps).run Tryz.prog W = .ok (AV u) W := by
  have q0 := h.at_ (j := 0) (by omega)
  have q1 := h.at_ (j := 1) (by omega)
  have q2 := h.at_ (j := 2) (by omega)
  have q3 := h.at_ (j := 3) (by omega)
  have q4 := h.at_ (j := 4) (by omega)
  have q5 := h.at_ (j := 5) (by omega)
  have q6 := h.at_ (j := 6) (by omega)
  rw [results_cell1 rfl, h2]
  go_simp
  rfl
theorem cnt_take {p : Nat → Bool} {K : List Nat} {k m : Nat} (h : K[k]? = some m) (hp : p m = true) : cntL p (K.take (k + 1)) = bump (cntL p (K.take k)) (mem m).length := by
  rw [List.take_add_one, h]
  exact cntL_yes hp
/-- Where the counting begins: the result's place and the counts, both empty. -/
def wq0 (w : World) : World := (w.alloc (.cells #[.int .i64 0, .int .i64 0, .int .i64 0, .int .i64 0, .int .i64 0, .int .i64 0, .int .i64 0] 45)).alloc (.cells #[.int .i64 0, .int .i64 0, .int .i64 0, .int .i64 0, .int .i64 0, .int .i64 0, .int .i64 0] 45)
theorem wq0_facts (w : World) : AB (wq0 w) w.heap.size (fun _ => 0) ∧ AB (wq0 w) (w.heap.size + 1) (fun _ => 0) ∧ Below w.heap.size w (wq0 w) := by
  unfold wq0
  refine ⟨?_, ?_, ((Below.refl _ w).alloc (Nat.le_refl _) _).alloc (by simp) _⟩
  · exact (Below.heap_alloc (w.alloc _) _ _ (by simp)).trans (heap_alloc_new w _)
  · have := heap_alloc_new (w.alloc (.cells #[.int .i64 0, .int .i64 0, .int .i64 0, .int .i64 0, .int .i64 0, .int .i64 0, .int .i64 0] 45)) (.cells #[.int .i64 0, .int .i64 0, .int .i64 0, .int .i64 0, .int .i64 0, .int .i64 0, .int .i64 0] 45)
    rw [World.size_alloc] at this
    exact this

set_option maxRecDepth 100000 in
set_option maxHeartbeats 1600000 in
theorem qsizes_any (A : Option Addr) (c : Nat) (K : List Nat) (w : World) (ha : IB w A K) (hl : K.length ≤ 100) (hK : Msk K) :
    Calls Tryz.prog 31 #[.slice A K.length c] w fun e w' => e = .returned (AV (cntL (fun _ => true) K)) ∧ Below w.heap.size w w' := by
  have H00 := Lib.hid (wq0_facts w)
  go_enter Tryz.func31, Tryz.ntmps31
  go_wp2
  go_loopw [8] (fun i wr => ∃ k : Nat, k ≤ K.length ∧ i = .int .i64 k ∧ AB wr w.heap.size (fun _ => 0) ∧ AB wr (w.heap.size + 1) (cntL (fun _ => true) (K.take k)) ∧ Below w.heap.size w wr) (fun i _ => K.length - (intOf i).toNat)
  case atStart => exact ⟨0, Nat.zero_le _, rfl, H00.out.1, H00.out.2.1, H00.out.2.2⟩
  case round =>
    clear H00
    obtain ⟨k, hk, rfl, hz, hab, hbel⟩ := hrel
    by_cases hlt : k < K.length
    · obtain ⟨b, off, m, rfl, hx, hc⟩ := (ha.below hbel).at_ hlt
      have hm := hK m (List.mem_of_getElem? hx)
      have hml := mem_len m
      have HT := Lib.hid (cnt_take (p := fun _ => true) hx rfl)
      have hcl := cntL_le (fun _ => true) (K.take k) (mem m).length
      have hkl : (K.take k).length ≤ 100 := by rw [List.length_take]; omega
      clear hx
      go_wp2_with fail
      refine (size_any m _ hm).mono ?_
      rintro e w' ⟨rfl, rfl⟩
      have q1 := hab.at_ (j := (mem m).length) (by omega)
      have z1 := hab.fz (mem m).length
      have H2 := Lib.hid (show AB (wr.setCell ⟨w.heap.size + 1, (mem m).length, none⟩ (.int .i64 (((cntL (fun _ => true) (K.take k) (mem m).length : Nat) : Int) + 1))) (w.heap.size + 1) (bump (cntL (fun _ => true) (K.take k)) (mem m).length) ∧ AB (wr.setCell ⟨w.heap.size + 1, (mem m).length, none⟩ (.int .i64 (((cntL (fun _ => true) (K.take k) (mem m).length : Nat) : Int) + 1))) w.heap.size (fun _ => 0) ∧ Below w.heap.size w (wr.setCell ⟨w.heap.size + 1, (mem m).length, none⟩ (.int .i64 (((cntL (fun _ => true) (K.take k) (mem m).length : Nat) : Int) + 1))) from ⟨hab.inc (by omega), hz.kept (Below.heap_setCell wr _ _ _ (by simp)), hbel.setCell (by simp) _⟩)
      rw [← HT.out] at H2
      have hj0 : (0 : Int) ≤ ((mem m).length : Int) := by omega
      have hj7 : ((mem m).length : Int) < 7 := by omega
      clear HT hz hab hbel
      generalize (mem m).length = y at *
      generalize cntL (fun _ => true) (K.take k) y = z at *
      go_wp2
      go_roundw
      case rel => exact ⟨k + 1, by omega, by go_num, H2.out.2.1, H2.out.1, H2.out.2.2⟩
      case measure => simp [intOf]; omega
    · have hkl : k = K.length := by omega
      subst hkl
      rw [List.take_length] at hab
      obtain ⟨u, hu⟩ : ∃ u, u = cntL (fun _ => true) K := ⟨_, rfl⟩
      rw [← hu] at hab
      have HU := Lib.hid hu
      clear hu
      have q0 := hab.at_ (j := 0) (by omega)
      have q1 := hab.at_ (j := 1) (by omega)
      have q2 := hab.at_ (j := 2) (by omega)
      have q3 := hab.at_ (j := 3) (by omega)
      have q4 := hab.at_ (j := 4) (by omega)
      have q5 := hab.at_ (j := 5) (by omega)
      have q6 := hab.at_ (j := 6) (by omega)
      have p0 := hz.at_ (j := 0) (by omega)
      have p1 := hz.at_ (j := 1) (by omega)
      have p2 := hz.at_ (j := 2) (by omega)
      have p3 := hz.at_ (j := 3) (by omega)
      have p4 := hz.at_ (j := 4) (by omega)
      have p5 := hz.at_ (j := 5) (by omega)
      have p6 := hz.at_ (j := 6) (by omega)
      have z0 := hz.fz 0
      have z1 := hz.fz 1
      have z2 := hz.fz 2
      have z3 := hz.fz 3
      have z4 := hz.fz 4
      have z5 := hz.fz 5
      have z6 := hz.fz 6
      have H7 := Lib.hid (And.intro (hz.setA u) (setA_below hbel (Nat.le_refl _) u))
      go_wp2
      refine bodyPost_ret (res_sizes _ rfl H7.out.1) rfl ?_
      exact ⟨by rw [HU.out], H7.out.2⟩

set_option maxRecDepth 100000 in
set_option maxHeartbeats 1600000 in
theorem implSmall_any (A : Option Addr) (c : Nat) (F : List (List Int)) (w : World) (ha : ISS w A F) (hl : F.length ≤ 1048576) (hs : Short F 1048576) :
    Calls Tryz.prog 10 #[.slice A F.length c] w fun e w' => e = .returned (.int .i64 (smlR F)) ∧ Below w.heap.size w w' := by
  go_enter Tryz.func10, Tryz.ntmps10
  go_wp2_with fail
  refine (familyOf_any _ _ _ _ ha hl hs).mono ?_
  rintro e w1 ⟨b1, ⟨hf, rfl⟩ | ⟨hf, A1, c1, rfl, o1⟩⟩
  · have H := Lib.hid (show smlR F = -1 by simp [smlR, transOk, hf])
    clear hf
    go_wp2
    go_ret
    exact ⟨ret_int H.out.symm, b1⟩
  · have hM := (famOk_sys hf).1
    have hl20 := famOk_len hf
    have hml : (msks F).length ≤ 100 := by simp [msks]; omega
    have HS := Lib.hid (fun (k : Nat) (h1 : k < 7 → cntL (fun _ => true) (msks F) k ≠ 0) (h2 : ∀ j, j < k → cntL (fun _ => true) (msks F) j = 0) => show (if k < 7 then (k : Int) else -1) = smlR F by
      cases hT : transOk F
      · have hF : F = [] := by
          cases F with
          | nil => rfl
          | cons a F => simp [transOk, hf] at hT
        subst hF
        rw [if_neg (sml_none h1)]
        rfl
      · obtain ⟨e1, e2⟩ := sml_cnt hT h1 h2
        rw [if_pos e1, e2])
    have i1 := (IB.of_own o1).1
    clear hf o1 hl20
    generalize msks F = K at *
    go_wp2_with fail
    refine (qsizes_any _ _ _ _ i1 hml hM).mono ?_
    rintro e w2 ⟨rfl, b2⟩
    have B2 := below_step b1 b2
    clear b1 b2 i1
    go_wp2_with fail
    refine (smallest_any _ _).mono ?_
    rintro e w3 ⟨⟨k, hk, rfl, h1, h2⟩, b3⟩
    have H := Lib.hid (HS.out k h1 h2)
    have B3 := below_step B2 b3
    clear h1 h2 HS B2 b3
    generalize (if k < 7 then (k : Int) else -1) = r at *
    go_wp2
    go_ret
    exact ⟨ret_int H.out, B3⟩

theorem new_none {w w1 : World} (hb : Below w.heap.size w w1) : New w [] (.returned (.slice none 0 0)) w1 := ⟨none, 0, rfl, World.ownsRow_nil _ _ _ _, hb⟩

end Go.Proofs.YtngacjfoldgjpaaGreatDoor
