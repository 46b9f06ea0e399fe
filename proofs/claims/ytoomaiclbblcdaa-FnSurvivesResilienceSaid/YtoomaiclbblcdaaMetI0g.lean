/- Smallest quorum, critical members and survival, the program's, by their contracts. -/
import Derived.Test.YtoomaiclbblcdaaArrg
import Derived.Test.YtoomaiclbblcdaaGd
namespace Go.Proofs.Ytoomaiclbblcdaa
open Go.RowKit

theorem res_sizes {W : World} {b : Nat} {u : Nat → Nat} (tmps : Array Value) (h2 : tmps.getD 2 undef = .pointer (some ⟨b, 0, none⟩)) (h : AB W b u) :
    (results Try.f79 tmps).run Try.prog W = .ok (AV u) W := by
  have q0 := h.at_ (j := 0) (by omega)
  have q1 := h.at_ (j := 1) (by omega)
  have q2 := h.at_ (j := 2) (by omega)
  have q3 := h.at_ (j := 3) (by omega)
  have q4 := h.at_ (j := 4) (by omega)
  have q5 := h.at_ (j := 5) (by omega)
  have q6 := h.at_ (j := 6) (by omega)
  rw [results_cell1 rfl, h2]
  go_simp
  rfl
theorem cnt_take {p : Nat → Bool} {K : List Nat} {k m : Nat} (h : K[k]? = some m) (hp : p m = true) : cntL p (K.take (k + 1)) = bump (cntL p (K.take k)) (mem m).length := by
  rw [List.take_add_one, h]
  exact cntL_yes hp
/-- Where the counting begins: the result's place and the counts, both empty. -/
def wq0 (w : World) : World := (w.alloc (.cells #[.int .i64 0, .int .i64 0, .int .i64 0, .int .i64 0, .int .i64 0, .int .i64 0, .int .i64 0] 63)).alloc (.cells #[.int .i64 0, .int .i64 0, .int .i64 0, .int .i64 0, .int .i64 0, .int .i64 0, .int .i64 0] 63)
theorem wq0_facts (w : World) : AB (wq0 w) w.heap.size (fun _ => 0) ∧ AB (wq0 w) (w.heap.size + 1) (fun _ => 0) ∧ Below w.heap.size w (wq0 w) := by
  unfold wq0
  refine ⟨?_, ?_, ((Below.refl _ w).alloc (Nat.le_refl _) _).alloc (by simp) _⟩
  · exact (Below.heap_alloc (w.alloc _) _ _ (by simp)).trans (heap_alloc_new w _)
  · have := heap_alloc_new (w.alloc (.cells #[.int .i64 0, .int .i64 0, .int .i64 0, .int .i64 0, .int .i64 0, .int .i64 0, .int .i64 0] 63)) (.cells #[.int .i64 0, .int .i64 0, .int .i64 0, .int .i64 0, .int .i64 0, .int .i64 0, .int .i64 0] 63)
    rw [World.size_alloc] at this
    exact this

set_option maxRecDepth 100000 in
set_option maxHeartbeats 1600000 in
theorem qsizes_any (A : Option Addr) (c : Nat) (K : List Nat) (w : World) (ha : IB w A K) (hl : K.length ≤ 100) (hK : Msk K) :
    Calls Try.prog 79 #[.slice A K.length c] w fun e w' => e = .returned (AV (cntL (fun _ => true) K)) ∧ Below w.heap.size w w' := by
  have H00 := Lib.hid (wq0_facts w)
  go_enter Try.func79, Try.ntmps79
  go_wp2
  go_loopw [8] (fun i wr => ∃ k : Nat, k ≤ K.length ∧ i = .int .i64 k ∧ AB wr w.heap.size (fun _ => 0) ∧ AB wr (w.heap.size + 1) (cntL (fun _ => true) (K.take k)) ∧ Below w.heap.size w wr) (fun i _ => K.length - (intOf i).toNat)
  case atStart => exact ⟨0, Nat.zero_le _, rfl, H00.out.1, H00.out.2.1, H00.out.2.2⟩
  case round =>
    clear H00
    obtain ⟨k, hk, rfl, hz, hab, hbel⟩ := hrel
    by_cases hlt : k < K.length
    · obtain ⟨b, off, m, rfl, hx, hc⟩ := (ha.below hbel).at_ hlt
      have hm := hK m (List.mem_of_getElem? hx)
      have hml := mem_len m
      have HT := Lib.hid (cnt_take (p := fun _ => true) hx rfl)
      have hcl := cntL_le (fun _ => true) (K.take k) (mem m).length
      have hkl : (K.take k).length ≤ 100 := by rw [List.length_take]; omega
      clear hx
      go_wp2_with fail
      refine (size_any m _ hm).mono ?_
      rintro e w' ⟨rfl, rfl⟩
      have q1 := hab.at_ (j := (mem m).length) (by omega)
      have z1 := hab.fz (mem m).length
      have H2 := Lib.hid (show AB (wr.setCell ⟨w.heap.size + 1, (mem m).length, none⟩ (.int .i64 (((cntL (fun _ => true) (K.take k) (mem m).length : Nat) : Int) + 1))) (w.heap.size + 1) (bump (cntL (fun _ => true) (K.take k)) (mem m).length) ∧ AB (wr.setCell ⟨w.heap.size + 1, (mem m).length, none⟩ (.int .i64 (((cntL (fun _ => true) (K.take k) (mem m).length : Nat) : Int) + 1))) w.heap.size (fun _ => 0) ∧ Below w.heap.size w (wr.setCell ⟨w.heap.size + 1, (mem m).length, none⟩ (.int .i64 (((cntL (fun _ => true) (K.take k) (mem m).length : Nat) : Int) + 1))) from ⟨hab.inc (by omega), hz.kept (Below.heap_setCell wr _ _ _ (by simp)), hbel.setCell (by simp) _⟩)
      rw [← HT.out] at H2
      have hj0 : (0 : Int) ≤ ((mem m).length : Int) := by omega
      have hj7 : ((mem m).length : Int) < 7 := by omega
      clear HT hz hab hbel
      generalize (mem m).length = y at *
      generalize cntL (fun _ => true) (K.take k) y = z at *
      go_wp2
      go_roundw
      case rel => exact ⟨k + 1, by omega, by go_num, H2.out.2.1, H2.out.1, H2.out.2.2⟩
      case measure => simp [intOf]; omega
    · have hkl : k = K.length := by omega
      subst hkl
      rw [List.take_length] at hab
      obtain ⟨u, hu⟩ : ∃ u, u = cntL (fun _ => true) K := ⟨_, rfl⟩
      rw [← hu] at hab
      have HU := Lib.hid hu
      clear hu
      have q0 := hab.at_ (j := 0) (by omega)
      have q1 := hab.at_ (j := 1) (by omega)
      have q2 := hab.at_ (j := 2) (by omega)
      have q3 := hab.at_ (j := 3) (by omega)
      have q4 := hab.at_ (j := 4) (by omega)
      have q5 := hab.at_ (j := 5) (by omega)
      have q6 := hab.at_ (j := 6) (by omega)
      have p0 := hz.at_ (j := 0) (by omega)
      have p1 := hz.at_ (j := 1) (by omega)
      have p2 := hz.at_ (j := 2) (by omega)
      have p3 := hz.at_ (j := 3) (by omega)
      have p4 := hz.at_ (j := 4) (by omega)
      have p5 := hz.at_ (j := 5) (by omega)
      have p6 := hz.at_ (j := 6) (by omega)
      have z0 := hz.fz 0
      have z1 := hz.fz 1
      have z2 := hz.fz 2
      have z3 := hz.fz 3
      have z4 := hz.fz 4
      have z5 := hz.fz 5
      have z6 := hz.fz 6
      have H7 := Lib.hid (And.intro (hz.setA u) (setA_below hbel (Nat.le_refl _) u))
      go_wp2
      refine bodyPost_ret (res_sizes _ rfl H7.out.1) rfl ?_
      exact ⟨by rw [HU.out], H7.out.2⟩

set_option maxRecDepth 100000 in
set_option maxHeartbeats 1600000 in
theorem inEvery_any (A : Option Addr) (c : Nat) (K : List Nat) (w : World) (ha : IB w A K) (hl : K.length ≤ 1048576) (hK : Msk K) :
    Calls Try.prog 83 #[.slice A K.length c] w fun e w' => e = .returned (.int .u8 (andAll K K.length : Nat)) ∧ w = w' := by
  go_enter Try.func83, Try.ntmps83
  go_wp2
  go_loop [3, 8] (fun v i => ∃ (k x : Nat), k ≤ K.length ∧ i = .int .i64 k ∧ v = .int .u8 (x : Int) ∧ Hid (x = andAll K k)) (fun _ i => K.length - (intOf i).toNat)
  case atStart => exact ⟨0, 63, Nat.zero_le _, rfl, rfl, Lib.hid rfl⟩
  case round =>
    obtain ⟨k, x, hk, rfl, rfl, HX⟩ := hrel
    have hx64 : x < 64 := by rw [HX.out]; exact andAll_lt K k
    by_cases hlt : k < K.length
    · obtain ⟨b, off, m, rfl, hx, hc⟩ := ha.at_ hlt
      have hm := hK m (List.mem_of_getElem? hx)
      have HX2 := Lib.hid (show x &&& m = andAll K (k + 1) by rw [andAll_succ hx, HX.out])
      clear hx HX
      go_wp2_with fail
      refine (intersect_bits x m _ hx64 hm).mono ?_
      rintro e w' ⟨rfl, rfl⟩
      generalize x &&& m = y at *
      go_wp2
      go_round
      case rel => exact ⟨k + 1, y, by omega, by go_num, rfl, HX2⟩
      case measure => simp [intOf]; omega
    · have hkl : k = K.length := by omega
      subst hkl
      go_wp2
      go_ret
      exact ⟨ret_int (congrArg _ HX.out), rfl⟩

set_option maxRecDepth 100000 in
set_option maxHeartbeats 1600000 in
theorem implSmall_any (A : Option Addr) (c : Nat) (F : List (List Int)) (w : World) (ha : ISS w A F) (hl : F.length ≤ 1048576) (hs : Short F 1048576) :
    Calls Try.prog 26 #[.slice A F.length c] w fun e w' => e = .returned (.int .i64 (smlR F)) ∧ Below w.heap.size w w' := by
  go_enter Try.func26, Try.ntmps26
  go_wp2_with fail
  refine (familyOf_any _ _ _ _ ha hl hs).mono ?_
  rintro e w1 ⟨b1, ⟨hf, rfl⟩ | ⟨hf, A1, c1, rfl, o1⟩⟩
  · have H := Lib.hid (show smlR F = -1 by simp [smlR, transOk, hf])
    clear hf
    go_wp2
    go_ret
    exact ⟨ret_int H.out.symm, b1⟩
  · have hM := (famOk_sys hf).1
    have hl20 := famOk_len hf
    have hml : (msks F).length ≤ 100 := by simp [msks]; omega
    have HS := Lib.hid (fun (k : Nat) (h1 : k < 7 → cntL (fun _ => true) (msks F) k ≠ 0) (h2 : ∀ j, j < k → cntL (fun _ => true) (msks F) j = 0) => show (if k < 7 then (k : Int) else -1) = smlR F by
      cases hT : transOk F
      · have hF : F = [] := by
          cases F with
          | nil => rfl
          | cons a F => simp [transOk, hf] at hT
        subst hF
        rw [if_neg (sml_none h1)]
        rfl
      · obtain ⟨e1, e2⟩ := sml_cnt hT h1 h2
        rw [if_pos e1, e2])
    have i1 := (IB.of_own o1).1
    clear hf o1 hl20
    generalize msks F = K at *
    go_wp2_with fail
    refine (qsizes_any _ _ _ _ i1 hml hM).mono ?_
    rintro e w2 ⟨rfl, b2⟩
    have B2 := below_step b1 b2
    clear b1 b2 i1
    go_wp2_with fail
    refine (smallest_any _ _).mono ?_
    rintro e w3 ⟨⟨k, hk, rfl, h1, h2⟩, b3⟩
    have H := Lib.hid (HS.out k h1 h2)
    have B3 := below_step B2 b3
    clear h1 h2 HS B2 b3
    generalize (if k < 7 then (k : Int) else -1) = r at *
    go_wp2
    go_ret
    exact ⟨ret_int H.out, B3⟩

theorem new_none {w w1 : World} (hb : Below w.heap.size w w1) : New w [] (.returned (.slice none 0 0)) w1 := ⟨none, 0, rfl, World.ownsRow_nil _ _ _ _, hb⟩

set_option maxRecDepth 100000 in
set_option maxHeartbeats 1600000 in
theorem implCrit_any (A : Option Addr) (c : Nat) (F : List (List Int)) (w : World) (ha : ISS w A F) (hl : F.length ≤ 1048576) (hs : Short F 1048576) :
    Calls Try.prog 35 #[.slice A F.length c] w (New w (crtR F)) := by
  go_enter Try.func35, Try.ntmps35
  go_wp2_with fail
  refine (familyOf_any _ _ _ _ ha hl hs).mono ?_
  rintro e w1 ⟨b1, ⟨hf, rfl⟩ | ⟨hf, A1, c1, rfl, o1⟩⟩
  · have H := Lib.hid (show crtR F = [] by simp [crtR, transOk, hf])
    clear hf
    go_wp2
    go_ret
    rw [H.out]
    exact new_none b1
  · by_cases h0 : F.length = 0
    · have H := Lib.hid (show crtR F = [] by simp [crtR, transOk, h0])
      have h0b : (((msks F).length : Int) == 0) = true := by simp [msks, h0]
      clear hf h0
      go_wp2
      go_ret
      rw [H.out]
      exact new_none b1
    · have hM := (famOk_sys hf).1
      have hT : transOk F = true := by simp [transOk, hf]; omega
      have hl20 := famOk_len hf
      have hml : (msks F).length ≤ 100 := by simp [msks]; omega
      have hmle : (msks F).length = F.length := by simp [msks]
      have h0b : (((msks F).length : Int) == 0) = false := beq_eq_false_iff_ne.2 (by omega)
      clear hmle
      have H := Lib.hid (crt_and hT)
      have i1 := (IB.of_own o1).1
      clear hf o1 hl20 hT h0
      generalize msks F = K at *
      have hal := andAll_lt K K.length
      go_wp2_with fail
      refine (inEvery_any _ _ _ _ i1 (by omega) hM).mono ?_
      rintro e w' ⟨rfl, rfl⟩
      generalize andAll K K.length = y at *
      go_wp2_with fail
      refine (members_any y _ hal).mono ?_
      rintro e w2 ⟨A2, c2, rfl, o2, b2⟩
      have D := Lib.hid (show New w (crtR F) (.returned (.slice A2 (mem y).length c2)) w2 by rw [H.out]; exact ⟨A2, c2, rfl, own_base o2 b1.size, below_step b1 b2⟩)
      clear o2 b2 b1 i1 H
      go_wp2
      go_ret
      exact D.out

set_option maxRecDepth 100000 in
set_option maxHeartbeats 1600000 in
theorem implSurv_any (A B : Option Addr) (c d : Nat) (F : List (List Int)) (s : List Int) (w : World) (ha : ISS w A F) (hb : IL w B s) (hl : F.length ≤ 1048576) (hs : Short F 1048576) (hls : s.length ≤ 1048576) :
    Calls Try.prog 40 #[.slice A F.length c, .slice B s.length d] w fun e w' => e = .returned (.bool (srvR F s)) ∧ Below w.heap.size w w' := by
  go_enter Try.func40, Try.ntmps40
  go_wp2_with fail
  refine (familyOf_any _ _ _ _ ha hl hs).mono ?_
  rintro e w1 ⟨hb1, hor⟩
  have hb' := hb.below hb1
  cases hv : vld s
  · have HV := Lib.hid hv
    have H := Lib.hid (show srvR F s = false by simp [srvR, hv])
    clear hv
    rcases hor with ⟨hf, rfl⟩ | ⟨hf, A', c', rfl, ho⟩
    · clear hf
      go_wp2_with fail
      refine (bitsOf_no _ _ _ _ hb' HV.out hls).mono ?_
      rintro e w' ⟨rfl, rfl⟩
      go_wp2
      go_ret
      exact ⟨ret_bool H.out.symm, hb1⟩
    · clear hf ho
      go_wp2_with fail
      refine (bitsOf_no _ _ _ _ hb' HV.out hls).mono ?_
      rintro e w' ⟨rfl, rfl⟩
      go_wp2
      go_ret
      exact ⟨ret_bool H.out.symm, hb1⟩
  · have HV := Lib.hid hv
    have hm := msk_lt hv
    clear hv
    rcases hor with ⟨hf, rfl⟩ | ⟨hf, A', c', rfl, ho⟩
    · have H := Lib.hid (show srvR F s = false by simp [srvR, hf])
      clear hf
      go_wp2_with fail
      refine (bitsOf_yes _ _ _ _ hb' HV.out).mono ?_
      rintro e w' ⟨rfl, rfl⟩
      go_wp2
      go_ret
      exact ⟨ret_bool H.out.symm, hb1⟩
    · have hM := (famOk_sys hf).1
      have hl20 := famOk_len hf
      have hml : (msks F).length ≤ 100 := by simp [msks]; omega
      have H := Lib.hid (show srvR F s = hasQ (msks F) (andNot 63 (msk s)) by simp [srvR, hf, HV.out])
      have h6 := andNot_lt (a := 63) (b := msk s) (by omega)
      have i1 := (IB.of_own ho).1
      clear hf ho hl20
      generalize msks F = K at *
      go_wp2_with fail
      refine (bitsOf_yes _ _ _ _ hb' HV.out).mono ?_
      rintro e w' ⟨rfl, rfl⟩
      go_wp2_with fail
      refine (minus_bits 63 (msk s) _ (by omega) hm).mono ?_
      rintro e w' ⟨rfl, rfl⟩
      generalize andNot 63 (msk s) = y at *
      go_wp2_with fail
      refine (hasQuorum_any _ _ _ _ _ i1 (by omega) hM h6).mono ?_
      rintro e w' ⟨he, rfl⟩
      rw [← H.out] at he
      subst he
      go_wp2
      go_ret
      exact ⟨rfl, hb1⟩
end Go.Proofs.Ytoomaiclbblcdaa
