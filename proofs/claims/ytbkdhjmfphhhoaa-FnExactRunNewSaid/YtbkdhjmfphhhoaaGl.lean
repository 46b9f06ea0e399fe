/- The model's test of a run, by its contract. -/
import Derived.Test.YtbkdhjmfphhhoaaGk
import Derived.Test.YtbkdhjmfphhhoaaGb
import Derived.Test.YtbkdhjmfphhhoaaGd
import Derived.RegionTactic
import Derived.ChangeAlike
import Derived.Deep.RegionLaw
import Derived.Laws.CopyRow
namespace Go.Proofs.Ytbkdhjmfphhhoaa
open Go.RowKit

set_option maxRecDepth 100000 in
set_option maxHeartbeats 1600000 in
theorem l13Valid_any (A B : Option Addr) (c d : Nat) (F G : List (List Int)) (w : World) (ha : ISS w A F) (hb : ISS w B G) (hF : F.length ≤ 1048576) (sF : Short F 1048576) (hG : G.length ≤ 1048576) (sG : Short G 1048576) :
    Calls Try.prog 55 #[.agg #[.slice A F.length c, .slice B G.length d]] w fun e w' => e = .returned (.bool (cmpOk F G)) ∧ Below w.heap.size w w' := by
  have ba : Below w.heap.size w (w.alloc (.cells #[.slice A F.length c, .slice B G.length d] 25)) := (Below.refl _ w).alloc (Nat.le_refl _) _
  have cb := CB.new w (.slice A F.length c) (.slice B G.length d)
  cases hf : famOk F
  · have e0 : cmpOk F G = false := by simp [cmpOk, hf]
    rw [e0]
    have HF := Lib.hid hf
    clear hf e0
    go_enter Try.func55, Try.ntmps55
    go_wp2_with fail
    refine (specFam_any _ _ _ _ (ha.below ba) hF sF).mono ?_
    rintro e w1 ⟨rfl, d1⟩
    rw [HF.out]
    have HB := Lib.hid (below_step ba d1.below)
    clear ba d1 cb
    go_wp2
    go_ret
    exact ⟨rfl, HB.out⟩
  · cases hg : famOk G
    · have e0 : cmpOk F G = false := by simp [cmpOk, hg]
      rw [e0]
      have HF := Lib.hid (And.intro hf hg)
      clear hf hg e0
      go_enter Try.func55, Try.ntmps55
      go_wp2_with fail
      refine (specFam_any _ _ _ _ (ha.below ba) hF sF).mono ?_
      rintro e w1 ⟨rfl, d1⟩
      rw [HF.out.1]
      have B1 := below_step ba d1.below
      have cb1 := cb.below d1.below
      have q1 := cb1.c1
      clear ba d1 cb
      go_wp2_with fail
      refine (specFam_any _ _ _ _ (hb.below B1) hG sG).mono ?_
      rintro e w2 ⟨rfl, d2⟩
      rw [HF.out.2]
      have HB := Lib.hid (below_step B1 d2.below)
      clear B1 d2 cb1 q1
      go_wp2
      go_ret
      exact ⟨rfl, HB.out⟩
    · have HF := Lib.hid (And.intro hf hg)
      rcases Nat.eq_zero_or_pos F.length with h0 | h0
      · have e0 : cmpOk F G = false := by rw [List.eq_nil_of_length_eq_zero h0]; simp [cmpOk]
        rw [e0]
        have e1 : decide ((0 : Int) < (F.length : Int)) = false := by simp [h0]
        have e2 : decide (0 < F.length) = false := by simp [h0]
        clear hf hg e0 h0
        go_enter Try.func55, Try.ntmps55
        go_wp2_with fail
        refine (specFam_any _ _ _ _ (ha.below ba) hF sF).mono ?_
        rintro e w1 ⟨rfl, d1⟩
        rw [HF.out.1]
        have B1 := below_step ba d1.below
        have cb1 := cb.below d1.below
        have q1 := cb1.c1
        clear ba d1 cb
        go_wp2_with fail
        refine (specFam_any _ _ _ _ (hb.below B1) hG sG).mono ?_
        rintro e w2 ⟨rfl, d2⟩
        rw [HF.out.2]
        have cb2 := cb1.below d2.below
        clear q1
        have q0 := cb2.c0
        have HB := Lib.hid (below_step B1 d2.below)
        clear B1 d2 cb1 cb2
        go_wp2
        go_ret
        exact ⟨by simp_all, HB.out⟩
      · rcases Nat.eq_zero_or_pos G.length with g0 | g0
        · have e0 : cmpOk F G = false := by rw [List.eq_nil_of_length_eq_zero g0]; simp [cmpOk]
          rw [e0]
          have e1 : decide ((0 : Int) < (G.length : Int)) = false := by simp [g0]
          have e2 : decide (0 < G.length) = false := by simp [g0]
          clear hf hg e0 g0
          go_enter Try.func55, Try.ntmps55
          go_wp2_with fail
          refine (specFam_any _ _ _ _ (ha.below ba) hF sF).mono ?_
          rintro e w1 ⟨rfl, d1⟩
          rw [HF.out.1]
          have B1 := below_step ba d1.below
          have cb1 := cb.below d1.below
          have q1 := cb1.c1
          clear ba d1 cb
          go_wp2_with fail
          refine (specFam_any _ _ _ _ (hb.below B1) hG sG).mono ?_
          rintro e w2 ⟨rfl, d2⟩
          rw [HF.out.2]
          have cb2 := cb1.below d2.below
          clear q1
          have q0 := cb2.c0
          have q1 := cb2.c1
          have HB := Lib.hid (below_step B1 d2.below)
          clear B1 d2 cb1 cb2
          go_wp2
          go_ret
          exact ⟨by simp_all, HB.out⟩
        · have e0 : cmpOk F G = true := by
            have h1 : F.isEmpty = false := by rw [List.isEmpty_eq_false_iff]; exact List.length_pos_iff.1 h0
            have h2 : G.isEmpty = false := by rw [List.isEmpty_eq_false_iff]; exact List.length_pos_iff.1 g0
            simp [cmpOk, hf, hg, h1, h2]
          rw [e0]
          clear hf hg e0
          go_enter Try.func55, Try.ntmps55
          go_wp2_with fail
          refine (specFam_any _ _ _ _ (ha.below ba) hF sF).mono ?_
          rintro e w1 ⟨rfl, d1⟩
          rw [HF.out.1]
          have B1 := below_step ba d1.below
          have cb1 := cb.below d1.below
          have q1 := cb1.c1
          clear ba d1 cb
          go_wp2_with fail
          refine (specFam_any _ _ _ _ (hb.below B1) hG sG).mono ?_
          rintro e w2 ⟨rfl, d2⟩
          rw [HF.out.2]
          have cb2 := cb1.below d2.below
          clear q1
          have q0 := cb2.c0
          have q1 := cb2.c1
          have HB := Lib.hid (below_step B1 d2.below)
          clear B1 d2 cb1 cb2
          go_wp2
          go_ret
          exact ⟨by simp_all, HB.out⟩

/-- Where the proposal of a ballot stands. -/
def FndAt (pr : List Pr) (b x : Int) : Prop := (x = -1 ∧ fnd pr b = none) ∨ ∃ (i : Nat) (p : Pr), x = (i : Int) ∧ pr[i]? = some p ∧ fnd pr b = some p
theorem fnd_take_none {pr : List Pr} {b : Int} {k : Nat} {p : Pr} (h : pr[k]? = some p) (hn : fnd (pr.take k) b = none) (hp : p.1 ≠ b) : fnd (pr.take (k + 1)) b = none := by
  rw [take_p h, fnd_snoc, hn, if_neg hp]
  rfl
theorem fnd_take_some {pr : List Pr} {b : Int} {k : Nat} {p : Pr} (h : pr[k]? = some p) (hn : fnd (pr.take k) b = none) (hp : p.1 = b) : fnd pr b = some p := by
  have hk : k < pr.length := (List.getElem?_eq_some_iff.1 h).1
  have e : pr = pr.take k ++ (p :: pr.drop (k + 1)) := by
    have hd : pr.drop k = p :: pr.drop (k + 1) := by
      rw [List.drop_eq_getElem_cons hk]; congr 1; exact Option.some.inj ((List.getElem?_eq_getElem hk).symm.trans h)
    rw [← hd, List.take_append_drop]
  rw [e, fnd, List.find?_append]
  unfold fnd at hn
  rw [hn]
  simp [hp]

set_option maxRecDepth 100000 in
set_option maxHeartbeats 1600000 in
theorem l22Find_any (A B C D : Option Addr) (c d e f : Nat) (r : Rn) (b : Int) (w : World) (h : PL w D r.pr) (hl : r.pr.length ≤ 1048576) :
    Calls Try.prog 71 #[RVal A B C D c d e f r, .int .i64 b] w fun e w' => ∃ x : Int, e = .returned (.int .i64 x) ∧ FndAt r.pr b x ∧ Below w.heap.size w w' := by
  have ba : Below w.heap.size w (w.alloc (.cells #[.slice A r.P.length c, .slice B r.Q.length d, .slice C r.ac.length e, .slice D r.pr.length f] 30)) := (Below.refl _ w).alloc (Nat.le_refl _) _
  have rb := RB.new w (.slice A r.P.length c) (.slice B r.Q.length d) (.slice C r.ac.length e) (.slice D r.pr.length f) 30
  have q3 := rb.c3
  have hD := h.below ba
  clear h rb
  go_enter Try.func71, Try.ntmps71
  go_wp2
  generalize w.alloc (.cells #[.slice A r.P.length c, .slice B r.Q.length d, .slice C r.ac.length e, .slice D r.pr.length f] 30) = W at *
  go_loop [5] (fun i => ∃ k : Nat, k ≤ r.pr.length ∧ i = .int .i64 k ∧ Hid (fnd (r.pr.take k) b = none)) (fun i => r.pr.length - (intOf i).toNat)
  case atStart => exact ⟨0, Nat.zero_le _, rfl, by show _ = _; rfl⟩
  case round =>
    obtain ⟨k, hk, rfl, hn⟩ := hrel
    by_cases hlt : k < r.pr.length
    · obtain ⟨bb, off, x, B1, d1, rfl, hx, c0, c1, c2, i1⟩ := hD.at_ hlt
      by_cases he : x.1 = b
      · have H := Lib.hid (show FndAt r.pr b (k : Int) from .inr ⟨k, x, rfl, hx, fnd_take_some hx hn.out he⟩)
        have e1 : (x.1 == b) = true := by simpa using he
        clear hx hn he c1 c2 i1
        go_wp2
        go_ret
        exact ⟨_, rfl, H.out, ba⟩
      · have H := Lib.hid (fnd_take_none hx hn.out he)
        have e1 : (x.1 == b) = false := by simpa using he
        clear hx hn he c1 c2 i1
        go_wp2
        go_round
        case rel => exact ⟨k + 1, by omega, by go_num, H⟩
        case measure => simp [intOf]; omega
    · have hkl : k = r.pr.length := by omega
      subst hkl
      have H := Lib.hid (show FndAt r.pr b (-1) from .inl ⟨rfl, by have := hn.out; rwa [List.take_length] at this⟩)
      clear hn
      go_wp2
      go_ret
      exact ⟨_, rfl, H.out, ba⟩
end Go.Proofs.Ytbkdhjmfphhhoaa

/- The model's RunValid by its contract. -/
namespace Go.Proofs.Ytbkdhjmfphhhoaa
open Go.RowKit

/-- The first k proposals are as they must be, and their votes are borne out. -/
def Pre (r : Rn) (k : Nat) : Prop := prOk 0 (r.pr.take k) = true ∧ ∀ p ∈ r.pr.take k, ∀ m ∈ p.2.2, p.1 ≤ (acAt r.ac m).2.1
/-- The votes of one proposal up to t are borne out. -/
def PreV (r : Rn) (p : Pr) (t : Nat) : Prop := ∀ m ∈ p.2.2.take t, p.1 ≤ (acAt r.ac m).2.1
/-- The seats below m are as they must be. -/
def PreS (r : Rn) (k : Nat) : Prop := ∀ m ∈ six, m ≤ (k : Int) → (acAt r.ac m).ok = true ∧ accOk r.pr m (acAt r.ac m) = true
theorem pre_cond {r : Rn} {k : Nat} {p : Pr} (hx : r.pr[k]? = some p) (hb : (decide (lastB r.pr k < p.1) && decide (p.1 ≤ 20) && okV p.2.1 && vld p.2.2) = false) : runOk r = false :=
  rv_no fun ho => by
    have := prOk_stop hx hb
    rw [(runOk_parts ho).2.2.1] at this
    cases this
theorem pre_bd {r : Rn} {k : Nat} (h : Pre r k) (hk : k ≤ r.pr.length) : 0 ≤ lastB r.pr k ∧ lastB r.pr k ≤ 20 := lastB_bd h.1 hk
theorem pre_step {r : Rn} {k : Nat} {p : Pr} (h : Pre r k) (hx : r.pr[k]? = some p) (h1 : lastB r.pr k < p.1) (h2 : p.1 ≤ 20) (h3 : okV p.2.1 = true) (h4 : vld p.2.2 = true) (hv : PreV r p p.2.2.length) : Pre r (k + 1) := by
  refine ⟨by rw [prOk_step hx, h.1, h3, h4]; simp [h1, h2], fun q hq => ?_⟩
  rw [take_p hx] at hq
  rcases List.mem_append.1 hq with hq | hq
  · exact h.2 q hq
  · rw [List.mem_singleton] at hq
    subst hq
    intro m hm
    exact hv m (by rw [List.take_length]; exact hm)
theorem prev_step {r : Rn} {p : Pr} {t : Nat} {m : Int} (h : PreV r p t) (hx : p.2.2[t]? = some m) (hm : p.1 ≤ (acAt r.ac m).2.1) : PreV r p (t + 1) := by
  intro x hxm
  rw [List.take_add_one, hx] at hxm
  rcases List.mem_append.1 hxm with h1 | h1
  · exact h x h1
  · simp at h1; subst h1; exact hm
theorem prev_bad {r : Rn} {p : Pr} {k t : Nat} {m : Int} (hp : r.pr[k]? = some p) (hv : vld p.2.2 = true) (hx : p.2.2[t]? = some m) (hm : ¬ p.1 ≤ (acAt r.ac m).2.1) : runOk r = false :=
  rv_no fun ho => by
    have h6 := vld_at hv hx
    have := (seat_iff.1 (seats_at (runOk_parts ho).2.2.2 (six_iff.2 h6))).2.1 p (List.mem_of_getElem? hp) (has_mem.2 (List.mem_of_getElem? hx))
    exact hm this
theorem pres_step {r : Rn} {k : Nat} (h : PreS r k) (h1 : (acAt r.ac ((k + 1 : Nat) : Int)).ok = true) (h2 : accOk r.pr ((k + 1 : Nat) : Int) (acAt r.ac ((k + 1 : Nat) : Int)) = true) : PreS r (k + 1) := by
  intro m hm hk
  by_cases e : m = ((k + 1 : Nat) : Int)
  · rw [e]; exact ⟨h1, h2⟩
  · exact h m hm (by omega)
theorem pres_bad {r : Rn} {k : Nat} (hk : k < 6) (h : ((acAt r.ac ((k + 1 : Nat) : Int)).ok && accOk r.pr ((k + 1 : Nat) : Int) (acAt r.ac ((k + 1 : Nat) : Int))) = false) : runOk r = false :=
  rv_no fun ho => by
    have := seats_at (runOk_parts ho).2.2.2 (six_iff.2 (show 1 ≤ ((k + 1 : Nat) : Int) ∧ ((k + 1 : Nat) : Int) ≤ 6 by omega))
    simp only [seatOk, Bool.and_eq_true] at this
    rw [this.1.1, this.2] at h
    cases h
theorem pre_end {r : Rn} (hc : cmpOk r.P r.Q = true) (hl : r.ac.length = 6) (h : Pre r r.pr.length) (hs : PreS r 6) : runOk r = true := by
  obtain ⟨h1, h2⟩ := h
  rw [List.take_length] at h1 h2
  refine runOk_of hc hl h1 (seats_of fun m hm => ?_)
  obtain ⟨s1, s2⟩ := hs m hm (six_iff.1 hm).2
  rw [seatOk, s1, s2, votOk]
  simp only [Bool.true_and, Bool.and_true, List.all_eq_true, Bool.or_eq_true, Bool.not_eq_true', decide_eq_true_eq]
  intro p hp
  cases e : has p.2.2 m
  · exact .inl rfl
  · exact .inr (h2 p hp m (has_mem.1 e))
theorem fnd_in {pr : List Pr} (h : prOk 0 pr = true) {a : Ac} {m : Int} {p : Pr} (hf : fnd pr a.2.1 = some p) : accOk pr m a = (a.2.1 == 0 || (p.2.1 == a.2.2 && has p.2.2 m)) := by
  unfold accOk
  congr 1
  obtain ⟨h1, h2⟩ := fnd_some hf
  rw [Bool.eq_iff_iff]
  simp only [List.any_eq_true, Bool.and_eq_true, beq_iff_eq]
  constructor
  · rintro ⟨q, q1, q2, q3⟩
    rw [asc_one (prOk_asc h) p h1 q q1 (by rw [h2, q2])]
    exact q3
  · intro h3
    exact ⟨p, h1, h2, h3⟩
theorem fnd_no {pr : List Pr} {a : Ac} {m : Int} (hf : fnd pr a.2.1 = none) : accOk pr m a = (a.2.1 == 0) := by
  unfold accOk
  rw [Bool.eq_iff_iff]
  simp only [Bool.or_eq_true, beq_iff_eq, List.any_eq_true, Bool.and_eq_true]
  constructor
  · rintro (h | ⟨q, q1, q2, _⟩)
    · exact h
    · exact absurd q2 (fnd_none.1 hf q q1)
  · exact .inl
theorem AL.seat {w : World} {A : Option Addr} {l : List Ac} (h : AL w A l) {n : Nat} (hn : n < l.length) :
    ∃ b off x, A = some ⟨b, off, none⟩ ∧ acAt l ((n + 1 : Nat) : Int) = x ∧ w.cell? ⟨b, off + n * 3, none⟩ = some (.int .i64 x.1) ∧ w.cell? ⟨b, off + n * 3 + 1, none⟩ = some (.int .i64 x.2.1) ∧ w.cell? ⟨b, off + n * 3 + 2, none⟩ = some (.int .i64 x.2.2) := by
  obtain ⟨b, off, x, h1, h2, h3⟩ := h.at_ hn
  refine ⟨b, off, x, h1, ?_, h3⟩
  unfold acAt
  have : (((n + 1 : Nat) : Int)).toNat - 1 = n := by omega
  rw [this]
  simp [List.getD, h2]

set_option maxRecDepth 100000 in
set_option maxHeartbeats 6400000 in
theorem specRunValid_any (A B C D : Option Addr) (c d e f : Nat) (r : Rn) (w : World) (h : Reads w A B C D r) (hl : RLen r 1048576) :
    Calls Try.prog 24 #[RVal A B C D c d e f r] w fun e w' => e = .returned (.bool (runOk r)) ∧ Below w.heap.size w w' := by
  have ba : Below w.heap.size w (w.alloc (.cells #[.slice A r.P.length c, .slice B r.Q.length d, .slice C r.ac.length e, .slice D r.pr.length f] 30)) := (Below.refl _ w).alloc (Nat.le_refl _) _
  have rb := RB.new w (.slice A r.P.length c) (.slice B r.Q.length d) (.slice C r.ac.length e) (.slice D r.pr.length f) 30
  obtain ⟨t, ht⟩ : ∃ t, t = runOk r := ⟨_, rfl⟩
  rw [← ht]
  have HT := Lib.hid ht
  have H := Lib.hid (And.intro h hl)
  clear h hl ht
  go_enter Try.func24, Try.ntmps24
  go_wp2_with fail
  refine (l13Valid_any _ _ _ _ _ _ _ (H.out.1.P.below ba) (H.out.1.Q.below ba) H.out.2.P H.out.2.sP H.out.2.Q H.out.2.sQ).mono ?_
  rintro e w1 ⟨rfl, b1⟩
  have B1 := below_step ba b1
  have R1 := rb.below b1
  clear b1 ba rb
  cases hc : cmpOk r.P r.Q
  · have E := Lib.hid (show t = false by rw [HT.out]; exact rv_no fun ho => by rw [(runOk_parts ho).1] at hc; cases hc)
    clear hc
    go_wp2
    go_ret
    exact ⟨ret_bool E.out.symm, B1⟩
  · by_cases h6 : r.ac.length = 6
    · have e6 : ((r.ac.length : Int) == 6) = true := by simp [h6]
      have e7 : ((r.ac.length : Int) != 6) = false := by simp [h6]
      have q2 := R1.c2
      have HC := Lib.hid (And.intro hc h6)
      clear hc h6
      clear e6
      go_wp2
      go_loopw [3] (fun i wr => ∃ k : Nat, k ≤ r.pr.length ∧ i = .int .i64 k ∧ Hid (Pre r k) ∧ RB wr w.heap.size (.slice A r.P.length c) (.slice B r.Q.length d) (.slice C r.ac.length e) (.slice D r.pr.length f) ∧ Below w.heap.size w wr) (fun i _ => r.pr.length - (intOf i).toNat)
      case atStart => exact ⟨0, Nat.zero_le _, rfl, ⟨rfl, fun p hp => absurd hp List.not_mem_nil⟩, R1, B1⟩
      case round =>
        clear q2 R1 B1
        obtain ⟨k, hk, rfl, hpre, rb, hbel⟩ := hrel
        have q3 := rb.c3
        have q2 := rb.c2
        have hlp := H.out.2.pr
        by_cases hlt : k < r.pr.length
        · obtain ⟨bb, off, x, B2, d2, rfl, hx, c0, c1, c2, i2⟩ := (H.out.1.pr.below hbel).at_ hlt
          have hsx := PL.short H.out.2.sv hx
          have HX := Lib.hid hx
          clear hx
          obtain ⟨x0, x1, x2⟩ := x
          have bw := (Below.refl _ wr).alloc (Nat.le_refl wr.heap.size) (.cells #[.int .i64 x0, .int .i64 x1, .slice B2 x2.length d2] 49)
          have pb := PB.new wr x0 x1 (.slice B2 x2.length d2) 49
          have rb2 := rb.below bw
          have i3 := i2.below bw
          have p0 := pb.c0
          have p1 := pb.c1
          have p2 := pb.c2
          have r3 := rb2.c3
          have EI : ∀ n, Calls Try.prog 66 #[.int .i64 x0, .int .i64 1, .int .i64 20] ((wr.alloc (.cells #[.int .i64 x0, .int .i64 x1, .slice B2 x2.length d2] 49)).drewN n) fun e w' => e = .returned (.bool (decide (1 ≤ x0 ∧ x0 ≤ 20))) ∧ ((wr.alloc (.cells #[.int .i64 x0, .int .i64 x1, .slice B2 x2.length d2] 49)).drewN n) = w' := fun n => l6In_any _ _ _ _
          have EV : ∀ n, Calls Try.prog 67 #[.int .i64 x1] ((wr.alloc (.cells #[.int .i64 x0, .int .i64 x1, .slice B2 x2.length d2] 49)).drewN n) fun e w' => e = .returned (.bool (okV x1)) ∧ ((wr.alloc (.cells #[.int .i64 x0, .int .i64 x1, .slice B2 x2.length d2] 49)).drewN n) = w' := fun n => l21Value_any _ _
          have ES : ∀ n, Calls Try.prog 25 #[.slice B2 x2.length d2] ((wr.alloc (.cells #[.int .i64 x0, .int .i64 x1, .slice B2 x2.length d2] 49)).drewN n) fun e w' => e = .returned (.bool (vld x2)) ∧ ∃ m, w' = ((wr.alloc (.cells #[.int .i64 x0, .int .i64 x1, .slice B2 x2.length d2] 49)).drewN n).drewN m := fun n => specValid_drew _ _ _ _ (i3.drew n) hsx
          have HB := Lib.hid (below_step hbel bw)
          have HL := Lib.hid (pre_bd hpre.out hk)
          have hki : (0 : Int) ≤ (k : Int) := by omega
          have hki2 : (k : Int) < (r.pr.length : Int) := by omega
          clear hbel bw
          cases hI : decide (1 ≤ x0 ∧ x0 ≤ 20)
          · rw [hI] at EI
            have E := Lib.hid (show t = false by
              rw [HT.out]
              refine pre_cond HX.out ?_
              have := HL.out
              simp only [decide_eq_false_iff_not] at hI
              have : ¬ (lastB r.pr k < x0 ∧ x0 ≤ 20) := by omega
              by_cases h1 : lastB r.pr k < x0
              · have : ¬ x0 ≤ 20 := fun h2 => this ⟨h1, h2⟩
                simp [this]
              · simp [h1])
            clear hI HX HL i2 i3
            go_wp2
            go_quiet ((first | (go_at_call 66; exact quiet_same (EI _)) | (go_at_call 67; exact quiet_same (EV _)) | (go_at_call 25; exact Calls.quiet_of (ES _))))
            go_wp2
            go_ret
            exact ⟨ret_bool E.out.symm, below_drewN HB.out _⟩
          · rw [hI] at EI
            have HI := Lib.hid (show 1 ≤ x0 ∧ x0 ≤ 20 by simpa using hI)
            clear hI
            cases hV : okV x1
            · rw [hV] at EV
              have E := Lib.hid (show t = false by
                rw [HT.out]
                exact pre_cond HX.out (by simp [hV]))
              clear hV HX HL i2 i3
              go_wp2
              go_quiet ((first | (go_at_call 66; exact quiet_same (EI _)) | (go_at_call 67; exact quiet_same (EV _)) | (go_at_call 25; exact Calls.quiet_of (ES _))))
              go_wp2
              go_ret
              exact ⟨ret_bool E.out.symm, below_drewN HB.out _⟩
            · rw [hV] at EV
              cases hS : vld x2
              · rw [hS] at ES
                have E := Lib.hid (show t = false by
                  rw [HT.out]
                  exact pre_cond HX.out (by simp [hS]))
                clear hV hS HX HL i2 i3
                go_wp2
                go_quiet ((first | (go_at_call 66; exact quiet_same (EI _)) | (go_at_call 67; exact quiet_same (EV _)) | (go_at_call 25; exact Calls.quiet_of (ES _))))
                go_wp2
                go_ret
                exact ⟨ret_bool E.out.symm, below_drewN HB.out _⟩
              · rw [hS] at ES
                have HVS := Lib.hid (And.intro hV hS)
                clear hV hS
                by_cases hk0 : (0 : Int) < (k : Int)
                · obtain ⟨j, rfl⟩ : ∃ j, k = j + 1 := ⟨k - 1, by omega⟩
                  obtain ⟨bb', off', x', B5, d5, hA5, hx5, e0, e1, e2, i5⟩ := (H.out.1.pr.below HB.out).at_ (k := j) (by omega)
                  obtain ⟨rfl, rfl⟩ : bb = bb' ∧ off = off' := by injection hA5 with h; injection h with h1 h2; exact ⟨h1, h2⟩
                  have hlb : lastB r.pr (j + 1) = x'.1 := by simp [lastB, hx5]
                  clear hA5 hx5 e1 e2 i5
                  have hj0 : (0 : Int) ≤ (j : Int) := by omega
                  have hj1 : (j : Int) < (r.pr.length : Int) := by omega
                  by_cases hge : x0 ≤ x'.1
                  · have E := Lib.hid (show t = false by
                      rw [HT.out]
                      exact pre_cond HX.out (by rw [hlb]; have : ¬ x'.1 < x0 := by omega
                                                simp [this]))
                    clear hlb HX HL i2 i3
                    go_wp2
                    go_quiet ((first | (go_at_call 66; exact quiet_same (EI _)) | (go_at_call 67; exact quiet_same (EV _)) | (go_at_call 25; exact Calls.quiet_of (ES _))))
                    go_wp2
                    go_ret
                    exact ⟨ret_bool E.out.symm, below_drewN HB.out _⟩
                  · have hlt' : lastB r.pr (j + 1) < x0 := by omega
                    have HLT0 := Lib.hid hlt'
                    clear hlb hlt'
                    have HLT := Lib.hid (show lastB r.pr (j + 1) < x0 from HLT0.out)
                    go_wp2
                    go_quiet ((first | (go_at_call 66; exact quiet_same (EI _)) | (go_at_call 67; exact quiet_same (EV _)) | (go_at_call 25; exact Calls.quiet_of (ES _))))
                    go_wp2
                    have hws : Drew (wr.alloc (.cells #[.int .i64 x0, .int .i64 x1, .slice B2 x2.length d2] 49)) ((wr.alloc (.cells #[.int .i64 x0, .int .i64 x1, .slice B2 x2.length d2] 49)).drewN nq) := ⟨nq, rfl⟩
                    have hwz : (wr.alloc (.cells #[.int .i64 x0, .int .i64 x1, .slice B2 x2.length d2] 49)).heap.size = wr.heap.size + 1 := by simp
                    clear EI EV ES c0 c1 c2 p0 p1 p2 r3 q2 q3 rb i2
                    generalize (wr.alloc (.cells #[.int .i64 x0, .int .i64 x1, .slice B2 x2.length d2] 49)).drewN nq = ws at *
                    generalize (wr.alloc (.cells #[.int .i64 x0, .int .i64 x1, .slice B2 x2.length d2] 49)) = W at *
                    go_loopw [5] (fun i wq => ∃ t : Nat, t ≤ x2.length ∧ i = .int .i64 t ∧ Hid (PreV r (x0, x1, x2) t) ∧ Drew W wq) (fun i _ => x2.length - (intOf i).toNat)
                    case atStart => exact ⟨0, Nat.zero_le _, rfl, fun m hm => absurd hm List.not_mem_nil, hws⟩
                    case round =>
                      clear hws
                      obtain ⟨t', ht, rfl, hv, hd⟩ := hrel
                      have hb2 := hd.below
                      have pb2 := pb.below hb2
                      have rb3 := rb2.below hb2
                      have p0 := pb2.c0
                      have p2 := pb2.c2
                      have r2 := rb3.c2
                      by_cases hlt2 : t' < x2.length
                      · obtain ⟨b3, off3, m, rfl, hxm, hcm⟩ := (i3.below hb2).at_ hlt2
                        have hm6 := vld_at HVS.out.2 hxm
                        obtain ⟨n, rfl⟩ : ∃ n : Nat, m = ((n + 1 : Nat) : Int) := ⟨(m - 1).toNat, by omega⟩
                        have hn6 : n < r.ac.length := by rw [HC.out.2]; omega
                        obtain ⟨b4, off4, y, hC, hy, a0, a1, a2⟩ := ((H.out.1.ac.below HB.out).below hb2).seat hn6
                        have hn0 : (0 : Int) ≤ (n : Int) := by omega
                        have hn1 : (n : Int) < (r.ac.length : Int) := by omega
                        have ht0 : (0 : Int) ≤ (t' : Int) := by omega
                        have ht1 : (t' : Int) < (x2.length : Int) := by omega
                        rw [hC] at r2
                        have HN := Lib.hid (And.intro hxm hy)
                        have hac : r.ac.length ≤ 1048576 := H.out.2.ac
                        clear hxm hy hC hm6
                        by_cases hlo : y.2.1 < x0
                        · have E := Lib.hid (show t = false by
                            rw [HT.out]
                            exact prev_bad HX.out HVS.out.2 HN.out.1 (by rw [HN.out.2]; show ¬ x0 ≤ _; omega))
                          clear HN hv
                          go_wp2
                          go_quiet (fail)
                          go_wp2
                          go_ret
                          exact ⟨ret_bool E.out.symm, below_drewN (below_step HB.out hb2) _⟩
                        · have HV := Lib.hid (prev_step hv.out HN.out.1 (by rw [HN.out.2]; show x0 ≤ _; omega))
                          clear HN hv
                          go_wp2
                          go_quiet (fail)
                          go_wp2
                          go_roundw
                          case rel => exact ⟨t' + 1, by omega, by go_num, HV.out, hd.more _⟩
                          case measure => simp [intOf]; omega
                      · have htl : t' = x2.length := by omega
                        subst htl
                        have HP := Lib.hid (pre_step hpre.out HX.out HLT.out HI.out.2 HVS.out.1 HVS.out.2 hv.out)
                        have HBB := Lib.hid (And.intro rb3 (below_step HB.out hb2))
                        clear hv hpre rb3 hb2
                        go_wp2
                        go_roundw
                        case rel => exact ⟨j + 1 + 1, by omega, by go_num, HP, HBB.out.1, HBB.out.2⟩
                        case measure => simp [intOf]; omega
                · have hlt' : lastB r.pr k < x0 := by
                    have : k = 0 := by omega
                    subst this
                    have := HI.out
                    show (0 : Int) < x0
                    omega
                  have HLT0 := Lib.hid hlt'
                  have hk00 : decide ((0 : Int) < (k : Int)) = false := decide_eq_false hk0
                  have hk01 : decide (0 < k) = false := decide_eq_false (by omega)
                  clear hlt'
                  have HLT := Lib.hid (show lastB r.pr (k) < x0 from HLT0.out)
                  go_wp2
                  go_quiet ((first | (go_at_call 66; exact quiet_same (EI _)) | (go_at_call 67; exact quiet_same (EV _)) | (go_at_call 25; exact Calls.quiet_of (ES _))))
                  go_wp2
                  have hws : Drew (wr.alloc (.cells #[.int .i64 x0, .int .i64 x1, .slice B2 x2.length d2] 49)) ((wr.alloc (.cells #[.int .i64 x0, .int .i64 x1, .slice B2 x2.length d2] 49)).drewN nq) := ⟨nq, rfl⟩
                  have hwz : (wr.alloc (.cells #[.int .i64 x0, .int .i64 x1, .slice B2 x2.length d2] 49)).heap.size = wr.heap.size + 1 := by simp
                  clear EI EV ES c0 c1 c2 p0 p1 p2 r3 q2 q3 rb i2
                  generalize (wr.alloc (.cells #[.int .i64 x0, .int .i64 x1, .slice B2 x2.length d2] 49)).drewN nq = ws at *
                  generalize (wr.alloc (.cells #[.int .i64 x0, .int .i64 x1, .slice B2 x2.length d2] 49)) = W at *
                  go_loopw [5] (fun i wq => ∃ t : Nat, t ≤ x2.length ∧ i = .int .i64 t ∧ Hid (PreV r (x0, x1, x2) t) ∧ Drew W wq) (fun i _ => x2.length - (intOf i).toNat)
                  case atStart => exact ⟨0, Nat.zero_le _, rfl, fun m hm => absurd hm List.not_mem_nil, hws⟩
                  case round =>
                    clear hws
                    obtain ⟨t', ht, rfl, hv, hd⟩ := hrel
                    have hb2 := hd.below
                    have pb2 := pb.below hb2
                    have rb3 := rb2.below hb2
                    have p0 := pb2.c0
                    have p2 := pb2.c2
                    have r2 := rb3.c2
                    by_cases hlt2 : t' < x2.length
                    · obtain ⟨b3, off3, m, rfl, hxm, hcm⟩ := (i3.below hb2).at_ hlt2
                      have hm6 := vld_at HVS.out.2 hxm
                      obtain ⟨n, rfl⟩ : ∃ n : Nat, m = ((n + 1 : Nat) : Int) := ⟨(m - 1).toNat, by omega⟩
                      have hn6 : n < r.ac.length := by rw [HC.out.2]; omega
                      obtain ⟨b4, off4, y, hC, hy, a0, a1, a2⟩ := ((H.out.1.ac.below HB.out).below hb2).seat hn6
                      have hn0 : (0 : Int) ≤ (n : Int) := by omega
                      have hn1 : (n : Int) < (r.ac.length : Int) := by omega
                      have ht0 : (0 : Int) ≤ (t' : Int) := by omega
                      have ht1 : (t' : Int) < (x2.length : Int) := by omega
                      rw [hC] at r2
                      have HN := Lib.hid (And.intro hxm hy)
                      have hac : r.ac.length ≤ 1048576 := H.out.2.ac
                      clear hxm hy hC hm6
                      by_cases hlo : y.2.1 < x0
                      · have E := Lib.hid (show t = false by
                          rw [HT.out]
                          exact prev_bad HX.out HVS.out.2 HN.out.1 (by rw [HN.out.2]; show ¬ x0 ≤ _; omega))
                        clear HN hv
                        go_wp2
                        go_quiet (fail)
                        go_wp2
                        go_ret
                        exact ⟨ret_bool E.out.symm, below_drewN (below_step HB.out hb2) _⟩
                      · have HV := Lib.hid (prev_step hv.out HN.out.1 (by rw [HN.out.2]; show x0 ≤ _; omega))
                        clear HN hv
                        go_wp2
                        go_quiet (fail)
                        go_wp2
                        go_roundw
                        case rel => exact ⟨t' + 1, by omega, by go_num, HV.out, hd.more _⟩
                        case measure => simp [intOf]; omega
                    · have htl : t' = x2.length := by omega
                      subst htl
                      have HP := Lib.hid (pre_step hpre.out HX.out HLT.out HI.out.2 HVS.out.1 HVS.out.2 hv.out)
                      have HBB := Lib.hid (And.intro rb3 (below_step HB.out hb2))
                      clear hv hpre rb3 hb2
                      go_wp2
                      go_roundw
                      case rel => exact ⟨k + 1, by omega, by go_num, HP, HBB.out.1, HBB.out.2⟩
                      case measure => simp [intOf]; omega
        · have hkl : k = r.pr.length := by omega
          subst hkl
          go_wp2
          go_loopw [6] (fun i wr => ∃ k : Nat, k ≤ 6 ∧ i = .int .i64 ((k + 1 : Nat) : Int) ∧ Hid (PreS r k) ∧ RB wr w.heap.size (.slice A r.P.length c) (.slice B r.Q.length d) (.slice C r.ac.length e) (.slice D r.pr.length f) ∧ Below w.heap.size w wr) (fun i _ => 8 - (intOf i).toNat)
          case atStart => exact ⟨0, by omega, rfl, fun m hm h1 => by have := six_iff.1 hm; omega, rb, hbel⟩
          case round =>
            clear q2 q3 rb hbel hlt
            obtain ⟨k, hk6, rfl, hps, rb, hbel⟩ := hrel
            have q2 := rb.c2
            by_cases hlt : k < 6
            · obtain ⟨b4, off4, y, rfl, hy, a0, a1, a2⟩ := (H.out.1.ac.below hbel).seat (n := k) (by rw [HC.out.2]; exact hlt)
              have hle : ((k + 1 : Nat) : Int) ≤ (r.ac.length : Int) := by have := HC.out.2; omega
              have hn0 : (0 : Int) ≤ (k : Int) := by omega
              have hn1 : (k : Int) < (r.ac.length : Int) := by omega
              have hac : r.ac.length ≤ 1048576 := H.out.2.ac
              have HY := Lib.hid hy
              clear hy
              obtain ⟨y0, y1, y2⟩ := y
              have bw := (Below.refl _ wr).alloc (Nat.le_refl wr.heap.size) (.cells #[.int .i64 y0, .int .i64 y1, .int .i64 y2] 35)
              have ab := AF3.new wr y0 y1 y2 35
              have rb2 := rb.below bw
              have B2 := below_step hbel bw
              clear rb bw hbel
              go_wp2_with fail
              refine (spcValid_any y0 y1 y2 _).mono ?_
              rintro e w3 ⟨rfl, b3⟩
              have b3' := b3
              have ab3 := ab.below b3
              have rb3 := rb2.below b3
              have B3 := below_step B2 b3
              obtain ⟨c0, c1, c2⟩ := cells3 ab3.ab
              clear b3 b3' ab rb2 B2 a0 a1 a2 q2
              cases hok : okA y0 y1 y2
              · have E := Lib.hid (show t = false by
                  rw [HT.out]
                  exact pres_bad hlt (by rw [HY.out]; simp [Ac.ok, hok]))
                clear hok
                go_wp2
                go_ret
                exact ⟨ret_bool E.out.symm, B3⟩
              · by_cases hpos : 0 < y1
                · have HO := Lib.hid hok
                  have q0 := rb3.c0
                  have q1 := rb3.c1
                  have q2 := rb3.c2
                  have q3 := rb3.c3
                  have hpb := B3
                  clear hok
                  go_wp2_with fail
                  refine (l22Find_any _ _ _ _ _ _ _ _ _ _ _ (H.out.1.pr.below B3) H.out.2.pr).mono ?_
                  rintro e w4 ⟨x, rfl, hf, b4⟩
                  have ab4 := ab3.below b4
                  have rb4 := rb3.below b4
                  have B4 := below_step B3 b4
                  clear c0 c1 c2 q0 q1 q2 q3
                  obtain ⟨c0, c1, c2⟩ := cells3 ab4.ab
                  have q3 := rb4.c3
                  clear b4 ab3 rb3 B3 hpb
                  rcases hf with ⟨rfl, hf⟩ | ⟨i, p, rfl, hp, hf⟩
                  · have E := Lib.hid (show t = false by
                      rw [HT.out]
                      refine pres_bad hlt ?_
                      rw [HY.out, fnd_no hf]
                      have : ¬ y1 = 0 := by omega
                      simp [this])
                    clear hf
                    go_wp2
                    go_quiet (fail)
                    go_wp2
                    go_ret
                    exact ⟨ret_bool E.out.symm, below_drewN B4 _⟩
                  · have hil : i < r.pr.length := (List.getElem?_eq_some_iff.1 hp).1
                    obtain ⟨b5, off5, p', B5, d5, rfl, hp', e0, e1, e2, i5⟩ := (H.out.1.pr.below B4).at_ hil
                    obtain rfl : p = p' := by rw [hp] at hp'; exact Option.some.inj hp'
                    have hl5 := PL.short H.out.2.sv hp
                    have hacc := fnd_in (m := ((k + 1 : Nat) : Int)) (a := (y0, y1, y2)) (by have := hpre.out.1; rwa [List.take_length] at this) hf
                    have hy1 : ((y1 : Int) == 0) = false := by simp; omega
                    rw [hy1, Bool.false_or] at hacc
                    have HA := Lib.hid hacc
                    have hi0 : (0 : Int) ≤ (i : Int) := by omega
                    have hi1 : (i : Int) < (r.pr.length : Int) := by omega
                    have hineg : decide ((i : Int) < 0) = false := by simp
                    have hlp : r.pr.length ≤ 1048576 := H.out.2.pr
                    have EC : ∀ n, Calls Try.prog 72 #[.slice B5 p.2.2.length d5, .int .i64 ((k + 1 : Nat) : Int)] (w4.drewN n) fun e w' => e = .returned (.bool (has p.2.2 ((k + 1 : Nat) : Int))) ∧ w4.drewN n = w' := fun n => l1Contains_any _ _ _ _ _ (i5.drew n) hl5
                    clear hacc hp hp' hf i5 hy1
                    by_cases hval : p.2.1 = y2
                    · have hv1 : (p.2.1 == y2) = true := by simpa using hval
                      have hv2 : (p.2.1 != y2) = false := by simp [hval]
                      cases hh : has p.2.2 ((k + 1 : Nat) : Int)
                      · rw [hh] at EC
                        have E := Lib.hid (show t = false by
                          rw [HT.out]
                          exact pres_bad hlt (by rw [HY.out, HA.out, hh]; simp))
                        clear hh HA hval
                        go_wp2
                        go_quiet ((go_at_call 72; exact quiet_same (EC _)))
                        go_wp2
                        go_ret
                        exact ⟨ret_bool E.out.symm, below_drewN B4 _⟩
                      · rw [hh] at EC
                        have HP := Lib.hid (pres_step hps.out (by rw [HY.out]; exact HO.out) (by rw [HY.out, HA.out, hh, hv1]; rfl))
                        clear hh HA hval
                        go_wp2
                        go_quiet ((go_at_call 72; exact quiet_same (EC _)))
                        go_wp2
                        have HBB := Lib.hid (And.intro (rb4.below (below_drewN (Below.refl _ w4) nq)) (below_drewN B4 nq))
                        go_roundw
                        case rel => exact ⟨k + 1, by omega, by go_num, HP, HBB.out.1, HBB.out.2⟩
                        case measure => simp [intOf]; omega
                    · have hv2 : (p.2.1 != y2) = true := by simpa using hval
                      have hv1 : (p.2.1 == y2) = false := by simpa using hval
                      have E := Lib.hid (show t = false by
                        rw [HT.out]
                        exact pres_bad hlt (by rw [HY.out, HA.out, hv1]; simp))
                      clear HA hval
                      go_wp2
                      go_quiet ((go_at_call 72; exact quiet_same (EC _)))
                      go_wp2
                      go_ret
                      exact ⟨ret_bool E.out.symm, below_drewN B4 _⟩
                · have hy0 : y1 = 0 := by simp [okA] at hok; omega
                  have HP := Lib.hid (pres_step hps.out (by rw [HY.out]; exact hok) (by rw [HY.out, accOk]; simp [hy0]))
                  have HBB := Lib.hid (And.intro rb3 B3)
                  clear hok rb3 B3 hy0
                  go_wp2
                  go_roundw
                  case rel => exact ⟨k + 1, by omega, by go_num, HP, HBB.out.1, HBB.out.2⟩
                  case measure => simp [intOf]; omega
            · have hk7 : k = 6 := by omega
              subst hk7
              have E := Lib.hid (show t = true by
                rw [HT.out]
                exact pre_end HC.out.1 HC.out.2 hpre.out hps.out)
              have h6 : (r.ac.length : Int) = 6 := by rw [HC.out.2]; rfl
              go_wp2
              go_ret
              exact ⟨ret_bool E.out.symm, hbel⟩
    · have e6 : ((r.ac.length : Int) != 6) = true := by simp; omega
      have E := Lib.hid (show t = false by rw [HT.out]; exact rv_no fun ho => h6 (runOk_parts ho).2.1)
      have q2 := R1.c2
      clear hc h6
      go_wp2
      go_ret
      exact ⟨ret_bool E.out.symm, B1⟩
end Go.Proofs.Ytbkdhjmfphhhoaa

/- The program's instance: its block of 62 cells, and how it is made, by contracts. -/
namespace Go.Proofs.Ytbkdhjmfphhhoaa
open Go.RowKit

/-- The cells of tallies. -/
def tls (tl : List Tl) : List Value := tl.flatMap fun t => [.int .i64 t.1, .int .u8 t.2]
theorem tls_cons (t : Tl) (l : List Tl) : tls (t :: l) = .int .i64 t.1 :: .int .u8 t.2 :: tls l := rfl
theorem tls_len (l : List Tl) : (tls l).length = l.length * 2 := by
  induction l with
  | nil => rfl
  | cons x l ih => rw [tls_cons]; simp [ih]; omega
theorem tls_at : ∀ (l : List Tl) (k : Nat) (t : Tl), l[k]? = some t → (tls l)[k * 2]? = some (.int .i64 t.1) ∧ (tls l)[k * 2 + 1]? = some (.int .u8 t.2)
  | [], k, t, h => by simp at h
  | y :: l, 0, t, h => by simp at h; subst h; simp [tls_cons]
  | y :: l, k + 1, t, h => by
    have := tls_at l k t (by simpa using h)
    rw [tls_cons, show (k + 1) * 2 = k * 2 + 1 + 1 by omega]
    simpa using this
theorem tls_set : ∀ (l : List Tl) (k : Nat) (t : Tl), k < l.length → ((tls l).set (k * 2) (.int .i64 t.1)).set (k * 2 + 1) (.int .u8 t.2) = tls (l.set k t)
  | [], k, t, h => by simp at h
  | y :: l, 0, t, _ => by simp [tls_cons]
  | y :: l, k + 1, t, h => by
    have := tls_set l k t (by simpa using h)
    rw [tls_cons, show (k + 1) * 2 = k * 2 + 1 + 1 by omega]
    simp only [List.set_cons_succ, tls_cons, this]
theorem acs_set : ∀ (l : List Ac) (k : Nat) (x : Ac), k < l.length → (((acs l).set (k * 3) (.int .i64 x.1)).set (k * 3 + 1) (.int .i64 x.2.1)).set (k * 3 + 2) (.int .i64 x.2.2) = acs (l.set k x)
  | [], k, t, h => by simp at h
  | y :: l, 0, t, _ => by simp [acs_cons]
  | y :: l, k + 1, t, h => by
    have := acs_set l k t (by simpa using h)
    rw [acs_cons, show (k + 1) * 3 = k * 3 + 1 + 1 + 1 by omega]
    simp only [List.set_cons_succ, acs_cons, this]
def insCells (p q : Value) (ac : List Ac) (tl : List Tl) : List Value := p :: q :: (acs ac ++ tls tl)
/-- The block of an instance. -/
def IN (w : World) (g : Nat) (p q : Value) (ac : List Ac) (tl : List Tl) : Prop :=
  w.heap[g]? = some (.cells (insCells p q ac tl).toArray 145 (0, 0)) ∧ ac.length = 6 ∧ tl.length = 21
section
variable {w w' : World} {g : Nat} {p q : Value} {ac : List Ac} {tl : List Tl}
theorem IN.lt (h : IN w g p q ac tl) : g < w.heap.size := (Array.getElem?_eq_some_iff.1 h.1).1
theorem IN.fz (h : IN w g p q ac tl) (j : Nat) : w.frozen? ⟨g, j, none⟩ = false := frozen_of_row w g j _ _ h.1
theorem IN.cell (h : IN w g p q ac tl) (j : Nat) : w.cell? ⟨g, j, none⟩ = (insCells p q ac tl)[j]? := by
  rw [cell_of_row w g j _ _ (0, 0) h.1]
  simp
theorem IN.c0 (h : IN w g p q ac tl) : w.cell? ⟨g, 0, none⟩ = some p := h.cell 0
theorem IN.c1 (h : IN w g p q ac tl) : w.cell? ⟨g, 1, none⟩ = some q := h.cell 1
theorem ins_ac {j : Nat} (hl : ac.length = 6) (h : j < 18) : (insCells p q ac tl)[2 + j]? = (acs ac)[j]? := by
  unfold insCells
  rw [show 2 + j = j + 1 + 1 by omega, List.getElem?_cons_succ, List.getElem?_cons_succ, List.getElem?_append_left (by rw [acs_len, hl]; omega)]
theorem ins_tl {j : Nat} (hl : ac.length = 6) : (insCells p q ac tl)[20 + j]? = (tls tl)[j]? := by
  unfold insCells
  rw [show 20 + j = (18 + j) + 1 + 1 by omega, List.getElem?_cons_succ, List.getElem?_cons_succ, List.getElem?_append_right (by rw [acs_len, hl]; omega), acs_len, hl]
  congr 1
  omega
theorem IN.acc (h : IN w g p q ac tl) {n : Nat} {x : Ac} (hx : ac[n]? = some x) :
    w.cell? ⟨g, 2 + n * 3, none⟩ = some (.int .i64 x.1) ∧ w.cell? ⟨g, 2 + n * 3 + 1, none⟩ = some (.int .i64 x.2.1) ∧ w.cell? ⟨g, 2 + n * 3 + 2, none⟩ = some (.int .i64 x.2.2) := by
  obtain ⟨h1, h2, h3⟩ := acs_at ac n x hx
  have hn : n < 6 := by rw [← h.2.1]; exact (List.getElem?_eq_some_iff.1 hx).1
  rw [h.cell, h.cell, h.cell, Nat.add_assoc, Nat.add_assoc, ins_ac h.2.1 (by omega), ins_ac h.2.1 (by omega), ins_ac h.2.1 (by omega)]
  exact ⟨h1, h2, h3⟩
theorem IN.tal (h : IN w g p q ac tl) {b : Nat} {t : Tl} (hx : tl[b]? = some t) :
    w.cell? ⟨g, 20 + b * 2, none⟩ = some (.int .i64 t.1) ∧ w.cell? ⟨g, 20 + b * 2 + 1, none⟩ = some (.int .u8 t.2) := by
  obtain ⟨h1, h2⟩ := tls_at tl b t hx
  rw [h.cell, h.cell, Nat.add_assoc, ins_tl h.2.1, ins_tl h.2.1]
  exact ⟨h1, h2⟩
theorem IN.kept (h : IN w g p q ac tl) (hb : w'.heap[g]? = w.heap[g]?) : IN w' g p q ac tl := ⟨hb.trans h.1, h.2⟩
theorem IN.below (h : IN w g p q ac tl) (hb : Below w.heap.size w w') : IN w' g p q ac tl := h.kept (hb.block g h.lt)
theorem IN.store {l l' : List Value} {T : TypeId} {j : Nat} {v : Value} (h : w.heap[g]? = some (.cells l.toArray T (0, 0))) (e : l.set j v = l') : (w.setCell ⟨g, j, none⟩ v).heap[g]? = some (.cells l'.toArray T (0, 0)) := by
  rw [heap_setCell_same w g j _ _ _ h, ← e]
  simp
def setA3 (w : World) (g o : Nat) (x : Ac) : World := ((w.setCell ⟨g, o, none⟩ (.int .i64 x.1)).setCell ⟨g, o + 1, none⟩ (.int .i64 x.2.1)).setCell ⟨g, o + 2, none⟩ (.int .i64 x.2.2)
theorem IN.setA (h : IN w g p q ac tl) {n : Nat} (hn : n < 6) (x : Ac) : IN (setA3 w g (2 + n * 3) x) g p q (ac.set n x) tl := by
  refine ⟨?_, by rw [List.length_set]; exact h.2.1, h.2.2⟩
  unfold setA3
  refine IN.store (IN.store (IN.store h.1 rfl) rfl) ?_
  have hl := h.2.1
  have e := acs_set ac n x (by omega)
  unfold insCells
  rw [show 2 + n * 3 + 2 = (n * 3 + 2) + 1 + 1 by omega, show 2 + n * 3 + 1 = (n * 3 + 1) + 1 + 1 by omega, show 2 + n * 3 = n * 3 + 1 + 1 by omega]
  simp only [List.set_cons_succ]
  rw [List.set_append_left _ _ (by rw [acs_len, hl]; omega), List.set_append_left _ _ (by rw [List.length_set, acs_len, hl]; omega), List.set_append_left _ _ (by rw [List.length_set, List.length_set, acs_len, hl]; omega), e]
theorem IN.setT (h : IN w g p q ac tl) {b : Nat} (hb : b < 21) (t : Tl) : IN ((w.setCell ⟨g, 20 + b * 2, none⟩ (.int .i64 t.1)).setCell ⟨g, 20 + b * 2 + 1, none⟩ (.int .u8 t.2)) g p q ac (tl.set b t) := by
  refine ⟨?_, h.2.1, by rw [List.length_set]; exact h.2.2⟩
  refine IN.store (IN.store h.1 rfl) ?_
  have hl := h.2.1
  have e := tls_set tl b t (by rw [h.2.2]; exact hb)
  have ha := acs_len ac
  unfold insCells
  rw [show 20 + b * 2 + 1 = (18 + (b * 2 + 1)) + 1 + 1 by omega, show 20 + b * 2 = (18 + b * 2) + 1 + 1 by omega]
  simp only [List.set_cons_succ]
  rw [List.set_append_right _ _ (by rw [ha, hl]; omega), List.set_append_right _ _ (by rw [ha, hl]; omega), ha, hl, show 18 + b * 2 - 6 * 3 = b * 2 by omega, show 18 + (b * 2 + 1) - 6 * 3 = b * 2 + 1 by omega, e]
end

/-- What the reading of a configuration hands back. -/
def Comp (w : World) (F G : List (List Int)) (e : Ending) (w' : World) : Prop :=
  Below w.heap.size w w' ∧ ((cmpOk F G = false ∧ e = .returned (.tuple #[.slice none 0 0, .slice none 0 0, .bool false])) ∨
    (cmpOk F G = true ∧ ∃ A c B d, e = .returned (.tuple #[.slice A (msks F).length c, .slice B (msks G).length d, .bool true]) ∧ IB w' A (msks F) ∧ IB w' B (msks G)))

set_option maxRecDepth 100000 in
set_option maxHeartbeats 1600000 in
theorem complete_any (A B : Option Addr) (c d : Nat) (F G : List (List Int)) (w : World) (ha : ISS w A F) (hb : ISS w B G) (hF : F.length ≤ 1048576) (sF : Short F 1048576) (hG : G.length ≤ 1048576) (sG : Short G 1048576) :
    Calls Try.prog 107 #[.agg #[.slice A F.length c, .slice B G.length d]] w (Comp w F G) := by
  have ba : Below w.heap.size w (w.alloc (.cells #[.slice A F.length c, .slice B G.length d] 25)) := (Below.refl _ w).alloc (Nat.le_refl _) _
  go_enter Try.func107, Try.ntmps107
  go_wp2_with fail
  refine (familiesOf_any _ _ _ _ _ _ _ (ha.below ba) (hb.below ba) hF hG sF sG).mono ?_
  rintro e w1 ⟨b1, ⟨hf, rfl⟩ | ⟨hf, hg, A1, c1, A2, c2, rfl, i1, i2⟩⟩
  · have B1 := Lib.hid (And.intro (below_step ba b1) (show cmpOk F G = false by
      cases h1 : famOk F
      · simp [cmpOk, h1]
      · rw [h1] at hf
        have h2 : famOk G = false := by simpa using hf
        simp [cmpOk, h2]))
    clear hf b1 ba
    go_wp2
    go_ret3
    exact ⟨B1.out.1, .inl ⟨B1.out.2, rfl⟩⟩
  · have hlF : (msks F).length = F.length := by simp [msks]
    have hlG : (msks G).length = G.length := by simp [msks]
    have hHF := Lib.hid (And.intro hlF hlG)
    have h20 : (msks F).length ≤ 20 := (fam_bits hf).2
    have g20 : (msks G).length ≤ 20 := (fam_bits hg).2
    obtain ⟨K, hK⟩ : ∃ K, K = msks F := ⟨_, rfl⟩
    obtain ⟨L, hL⟩ : ∃ L, L = msks G := ⟨_, rfl⟩
    have HKL := Lib.hid (And.intro hK hL)
    rw [← hK] at hlF h20
    rw [← hL] at hlG g20
    have HI := Lib.hid (And.intro i1 (And.intro i2 (And.intro hf hg)))
    have B1 := Lib.hid (below_step ba b1)
    rw [← hK, ← hL]
    clear hK hL i1 i2 hf hg b1 ba
    rcases Nat.eq_zero_or_pos K.length with h0 | h0
    · have E := Lib.hid (show cmpOk F G = false by
        have : F = [] := List.eq_nil_of_length_eq_zero (by omega)
        rw [this]; simp [cmpOk])
      have e1 : ((K.length : Int) == 0) = true := by simp [h0]
      clear h0 hlF hlG h20 g20
      go_wp2
      go_ret3
      exact ⟨B1.out, .inl ⟨E.out, rfl⟩⟩
    · have e1 : ((K.length : Int) == 0) = false := by rw [beq_eq_false_iff_ne]; omega
      rcases Nat.eq_zero_or_pos L.length with g0 | g0
      · have E := Lib.hid (show cmpOk F G = false by
          have : G = [] := List.eq_nil_of_length_eq_zero (by omega)
          rw [this]; simp [cmpOk])
        have e2 : ((L.length : Int) == 0) = true := by simp [g0]
        clear h0 g0 hlF hlG h20 g20
        go_wp2
        go_ret3
        exact ⟨B1.out, .inl ⟨E.out, rfl⟩⟩
      · have e2 : ((L.length : Int) == 0) = false := by rw [beq_eq_false_iff_ne]; omega
        have E := Lib.hid (show cmpOk F G = true by
          have h1 : F.isEmpty = false := by rw [List.isEmpty_eq_false_iff]; exact List.length_pos_iff.1 (by omega)
          have h2 : G.isEmpty = false := by rw [List.isEmpty_eq_false_iff]; exact List.length_pos_iff.1 (by omega)
          simp [cmpOk, HI.out.2.2.1, HI.out.2.2.2, h1, h2])
        clear h0 g0 hlF hlG h20 g20
        go_wp2
        go_ret3
        exact ⟨B1.out, .inr ⟨E.out, A1, c1, A2, c2, by rw [← HKL.out.1, ← HKL.out.2]; rfl, HI.out.1, HI.out.2.1⟩⟩

/-- An instance in memory that reads as the run. -/
def Inst (w : World) (g : Nat) (r : Rn) : Prop :=
  ∃ (w1 : World) (A B : Option Addr) (c d : Nat), IN w g (.slice A (msks r.P).length c) (.slice B (msks r.Q).length d) r.ac (tlOf r.pr) ∧ IB w1 A (msks r.P) ∧ IB w1 B (msks r.Q) ∧ Below w1.heap.size w1 w ∧ w1.heap.size ≤ g
theorem Inst.below {w w' : World} {g : Nat} {r : Rn} (h : Inst w g r) (hb : Below w.heap.size w w') : Inst w' g r := by
  obtain ⟨w1, A, B, c, d, h1, h2, h3, h4, h5⟩ := h
  exact ⟨w1, A, B, c, d, h1.below hb, h2, h3, below_step h4 hb, h5⟩
theorem Inst.lt {w : World} {g : Nat} {r : Rn} (h : Inst w g r) : g < w.heap.size := by obtain ⟨w1, A, B, c, d, h1, _⟩ := h; exact h1.lt
/-- What the making of an instance hands back. -/
def NewI (w : World) (F G : List (List Int)) (e : Ending) (w' : World) : Prop :=
  Below w.heap.size w w' ∧ ((cmpOk F G = false ∧ e = .returned (.tuple #[.pointer none, .bool false])) ∨
    (cmpOk F G = true ∧ ∃ g, e = .returned (.tuple #[.pointer (some ⟨g, 0, none⟩), .bool true]) ∧ w.heap.size ≤ g ∧ Inst w' g (newR F G)))

set_option maxRecDepth 100000 in
set_option maxHeartbeats 1600000 in
theorem newI_any (A B : Option Addr) (c d : Nat) (F G : List (List Int)) (w : World) (ha : ISS w A F) (hb : ISS w B G) (hF : F.length ≤ 1048576) (sF : Short F 1048576) (hG : G.length ≤ 1048576) (sG : Short G 1048576) :
    Calls Try.prog 57 #[.agg #[.slice A F.length c, .slice B G.length d]] w (NewI w F G) := by
  have ba : Below w.heap.size w (w.alloc (.cells #[.slice A F.length c, .slice B G.length d] 25)) := (Below.refl _ w).alloc (Nat.le_refl _) _
  go_enter Try.func57, Try.ntmps57
  go_wp2_with fail
  refine (complete_any _ _ _ _ _ _ _ (ha.below ba) (hb.below ba) hF sF hG sG).mono ?_
  rintro e w1 ⟨b1, ⟨hf, rfl⟩ | ⟨hf, A1, c1, A2, c2, rfl, i1, i2⟩⟩
  · have B1 := Lib.hid (And.intro (below_step ba b1) hf)
    clear hf b1 ba
    go_wp2
    go_ret2
    exact ⟨B1.out.1, .inl ⟨B1.out.2, rfl⟩⟩
  · have B1 := Lib.hid (And.intro (below_step ba b1) (And.intro hf (And.intro i1 i2)))
    obtain ⟨K, hK⟩ : ∃ K, K = msks F := ⟨_, rfl⟩
    obtain ⟨L, hL⟩ : ∃ L, L = msks G := ⟨_, rfl⟩
    have HKL := Lib.hid (And.intro hK hL)
    rw [← hK, ← hL]
    clear hf b1 ba i1 i2 hK hL
    go_wp2
    go_ret2
    have hb := B1.out.1.alloc B1.out.1.size (.cells (insCells (.slice A1 K.length c1) (.slice A2 L.length c2) (List.replicate 6 (0, 0, 0)) (List.replicate 21 (0, 0))).toArray 145)
    refine ⟨hb, .inr ⟨B1.out.2.1, w1.heap.size, rfl, B1.out.1.size, w1, A1, A2, c1, c2, ?_, B1.out.2.2.1, B1.out.2.2.2, (Below.refl _ _).alloc (Nat.le_refl _) _, Nat.le_refl _⟩⟩
    show IN _ _ (.slice A1 (msks F).length c1) (.slice A2 (msks G).length c2) (List.replicate 6 (0, 0, 0)) (tlOf [])
    rw [tlOf_nil, ← HKL.out.1, ← HKL.out.2]
    exact ⟨heap_alloc_new w1 _, rfl, rfl⟩
end Go.Proofs.Ytbkdhjmfphhhoaa

/- The program reads proposals into an instance, and tests its seats, by contracts. -/
namespace Go.Proofs.Ytbkdhjmfphhhoaa
open Go.RowKit

/-- What the addition of proposals does. -/
def Added (w : World) (g : Nat) (p q : Value) (ac : List Ac) (pr : List Pr) (e : Ending) (w' : World) : Prop :=
  e = .returned (.bool (prOk 0 pr)) ∧ Keep g (g + 1) w w' ∧ (prOk 0 pr = true → IN w' g p q ac (tlOf pr))
theorem Keep.alloc {lo hi : Nat} {w w' : World} (h : Keep lo hi w w') (o : Obj) : Keep lo hi w (w'.alloc o) := h.trans (Keep.of_below lo hi ((Below.refl _ _).alloc (Nat.le_refl _) o))
theorem Keep.drew {lo hi : Nat} {w w' : World} (h : Keep lo hi w w') (n : Nat) : Keep lo hi w (w'.drewN n) := ⟨h.os, h.tape, h.output, h.size, h.block⟩
theorem IN.drew {w : World} {g : Nat} {p q : Value} {ac : List Ac} {tl : List Tl} (h : IN w g p q ac tl) (n : Nat) : IN (w.drewN n) g p q ac tl := ⟨h.1, h.2⟩
theorem Keep.at_ {lo hi : Nat} {w w' : World} (h : Keep lo hi w w') {b : Nat} (hb : b < w.heap.size) (hn : ¬ (lo ≤ b ∧ b < hi)) : w'.heap[b]? = w.heap[b]? := h.block b hb hn

theorem addP_step {w wr : World} {g : Nat} {p q : Value} {ac : List Ac} {tl : List Tl} (h : IN wr g p q ac tl) (k : Keep g (g + 1) w wr) {n : Nat} (hn : n < 21) (t : Tl) {x y : Int} {v : Value} {T : Nat} (o : Obj) (ho : o = .cells #[.int .i64 x, .int .i64 y, v] T := by rfl) :
    IN (((wr.setCell ⟨g, 20 + n * 2, none⟩ (.int .i64 t.1)).setCell ⟨g, 20 + n * 2 + 1, none⟩ (.int .u8 t.2)).alloc o).drew g p q ac (tl.set n t) ∧
    Keep g (g + 1) w (((wr.setCell ⟨g, 20 + n * 2, none⟩ (.int .i64 t.1)).setCell ⟨g, 20 + n * 2 + 1, none⟩ (.int .u8 t.2)).alloc o).drew ∧
    PB (((wr.setCell ⟨g, 20 + n * 2, none⟩ (.int .i64 t.1)).setCell ⟨g, 20 + n * 2 + 1, none⟩ (.int .u8 t.2)).alloc o).drew wr.heap.size x y v := by
  subst ho
  have h1 := h.setT hn t
  have k1 := k.trans ((set_keep wr g (20 + n * 2) (.int .i64 t.1)).trans (set_keep _ g (20 + n * 2 + 1) (.int .u8 t.2)))
  have p1 := PB.new ((wr.setCell ⟨g, 20 + n * 2, none⟩ (.int .i64 t.1)).setCell ⟨g, 20 + n * 2 + 1, none⟩ (.int .u8 t.2)) x y v T
  rw [set_size, set_size] at p1
  generalize (wr.setCell ⟨g, 20 + n * 2, none⟩ (.int .i64 t.1)).setCell ⟨g, 20 + n * 2 + 1, none⟩ (.int .u8 t.2) = W at *
  exact ⟨(h1.below ((Below.refl _ _).alloc (Nat.le_refl _) _)).drew 1, (k1.alloc _).drew 1, p1⟩

set_option maxRecDepth 100000 in
set_option maxHeartbeats 3200000 in
theorem addP_any (g : Nat) (p q : Value) (ac : List Ac) (D : Option Addr) (f : Nat) (pr : List Pr) (w0 w : World) (hI : IN w g p q ac (tlOf [])) (hD : PL w0 D pr) (h0 : Below w0.heap.size w0 w) (hg : w0.heap.size ≤ g) (hl : pr.length ≤ 1048576) (hs : Short (pvs pr) 1048576) :
    Calls Try.prog 112 #[.pointer (some ⟨g, 0, none⟩), .slice D pr.length f] w (Added w g p q ac pr) := by
  obtain ⟨t, ht⟩ : ∃ t, t = prOk 0 pr := ⟨_, rfl⟩
  have HT := Lib.hid ht
  unfold Added
  rw [← ht]
  clear ht
  go_enter Try.func112, Try.ntmps112
  go_wp2
  go_loopw [5, 12] (fun v i wr => ∃ k : Nat, k ≤ pr.length ∧ i = .int .i64 k ∧ v = .int .i64 (lastB pr k) ∧ Hid (prOk 0 (pr.take k) = true) ∧ IN wr g p q ac (tlOf (pr.take k)) ∧ Keep g (g + 1) w wr) (fun _ i _ => pr.length - (intOf i).toNat)
  case atStart => exact ⟨0, Nat.zero_le _, rfl, rfl, (by show _ = _; rfl), hI, Keep.refl _ _ _⟩
  case round =>
    obtain ⟨k, hk, rfl, rfl, hpo, hin, hkp⟩ := hrel
    by_cases hlt : k < pr.length
    · have hbel := below_keep h0 hkp hg
      obtain ⟨bb, off, x, B2, d2, rfl, hx, c0, c1, c2, i2⟩ := (hD.below hbel).at_ hlt
      have hsx := PL.short hs hx
      have HX := Lib.hid hx
      have hbd := lastB_bd hpo.out hk
      have hst := prOk_step hx
      clear hx
      obtain ⟨x0, x1, x2⟩ := x
      obtain ⟨last, hla⟩ : ∃ last, last = lastB pr k := ⟨_, rfl⟩
      have HLA := Lib.hid hla
      rw [← hla] at hbd hst ⊢
      have HST := Lib.hid hst
      have bw := (Below.refl _ wr).alloc (Nat.le_refl wr.heap.size) (.cells #[.int .i64 x0, .int .i64 x1, .slice B2 x2.length d2] 49)
      have pb := PB.new wr x0 x1 (.slice B2 x2.length d2) 49
      have i3 := i2.below bw
      have in2 := hin.below bw
      have kp2 := hkp.alloc (.cells #[.int .i64 x0, .int .i64 x1, .slice B2 x2.length d2] 49)
      have hgl := hin.lt
      have hki : (0 : Int) ≤ (k : Int) := by omega
      have hki2 : (k : Int) < (pr.length : Int) := by omega
      have hgne : g ≠ wr.heap.size := by omega
      clear hla hst hbel i2
      have hbad : ∀ b : Bool, (decide (last < x0) && decide (x0 ≤ 20) && okV x1 && vld x2) = false → t = false := fun _ hb => by
        rw [HT.out]
        exact prOk_stop HX.out (by rw [← HLA.out]; exact hb)
      have HBAD := Lib.hid hbad
      clear hbad
      have p0 := pb.c0
      have p1 := pb.c1
      have p2 := pb.c2
      cases hv : vld x2
      · have E := Lib.hid (HBAD.out true (by simp [hv]))
        have HV := Lib.hid hv
        clear hv HST
        go_wp2_with fail
        refine (bitsOf_no _ _ _ _ i3 HV.out hsx).mono ?_
        rintro e w' ⟨rfl, rfl⟩
        go_wp2
        go_ret
        exact ⟨ret_bool E.out.symm, kp2, fun h => by rw [E.out] at h; cases h⟩
      · have HV := Lib.hid hv
        have hm := msk_lt hv
        clear hv
        by_cases h1 : x0 ≤ last
        · have E := Lib.hid (HBAD.out true (by have : ¬ last < x0 := by omega
                                               simp [this]))
          clear HST
          go_wp2_with fail
          refine (bitsOf_yes _ _ _ _ i3 HV.out).mono ?_
          rintro e w' ⟨rfl, rfl⟩
          go_wp2
          go_ret
          exact ⟨ret_bool E.out.symm, kp2, fun h => by rw [E.out] at h; cases h⟩
        · by_cases h2 : 20 < x0
          · have E := Lib.hid (HBAD.out true (by have : ¬ x0 ≤ 20 := by omega
                                                 simp [this]))
            clear HST
            go_wp2_with fail
            refine (bitsOf_yes _ _ _ _ i3 HV.out).mono ?_
            rintro e w' ⟨rfl, rfl⟩
            go_wp2
            go_ret
            exact ⟨ret_bool E.out.symm, kp2, fun h => by rw [E.out] at h; cases h⟩
          · cases hval : okV x1
            · have E := Lib.hid (HBAD.out true (by simp [hval]))
              have HVA := Lib.hid hval
              clear HST hval
              go_wp2_with fail
              refine (bitsOf_yes _ _ _ _ i3 HV.out).mono ?_
              rintro e w' ⟨rfl, rfl⟩
              go_wp2_with fail
              refine (isValue_any _ _).mono ?_
              rintro e w' ⟨rfl, rfl⟩
              rw [HVA.out]
              go_wp2
              go_ret
              exact ⟨ret_bool E.out.symm, kp2, fun h => by rw [E.out] at h; cases h⟩
            · have HP := Lib.hid (show prOk 0 (pr.take (k + 1)) = true by
                rw [HST.out, hpo.out, hval, HV.out]
                have : last < x0 := by omega
                have h3 : x0 ≤ 20 := by omega
                simp [this, h3])
              have HVA := Lib.hid hval
              obtain ⟨n, rfl⟩ : ∃ n : Nat, x0 = (n : Int) := ⟨x0.toNat, by omega⟩
              have hn : n < 21 := by omega
              have HTL := Lib.hid (show tlOf (pr.take (k + 1)) = (tlOf (pr.take k)).set n (x1, msk x2) by
                have := HP.out
                rw [take_p HX.out] at this ⊢
                rw [tlOf_snoc this]
                rfl)
              have HLB := Lib.hid (show lastB pr (k + 1) = (n : Int) by simp [lastB, HX.out])
              have hn0 : (0 : Int) ≤ (n : Int) := by omega
              have hn21 : (n : Int) < 21 := by omega
              have hT : ∃ t, (tlOf (pr.take k))[n]? = some t := ⟨_, List.getElem?_eq_getElem (by rw [tlOf_len]; exact hn)⟩
              obtain ⟨t0, ht0⟩ := hT
              obtain ⟨u0, u1⟩ := hin.tal ht0
              have z0 := hin.fz (20 + n * 2)
              have z1 := hin.fz (20 + n * 2 + 1)
              have R := Lib.hid (addP_step hin hkp hn (x1, msk x2) (.cells #[.int .i64 (n : Int), .int .i64 x1, .slice B2 x2.length d2] 49))
              have h1' : last < (n : Int) := by omega
              have h2' : (n : Int) ≤ 20 := by omega
              clear HST hval hbd
              go_wp2_with fail
              refine (bitsOf_yes _ _ _ _ i3 HV.out).mono ?_
              rintro e w' ⟨rfl, rfl⟩
              go_wp2_with fail
              refine (isValue_any _ _).mono ?_
              rintro e w' ⟨rfl, rfl⟩
              rw [HVA.out]
              go_wp2
              obtain ⟨u0', u1'⟩ := in2.tal ht0
              have z0' := in2.fz (20 + n * 2)
              have z1' := in2.fz (20 + n * 2 + 1)
              clear in2 pb bw kp2 p2 ht0
              go_region
              have R1 := R.out.1
              have R2 := R.out.2.1
              have R3 := R.out.2.2
              generalize (((wr.setCell ⟨g, 20 + n * 2, none⟩ (.int .i64 x1)).setCell ⟨g, 20 + n * 2 + 1, none⟩ (.int .u8 (msk x2))).alloc (.cells #[.int .i64 (n : Int), .int .i64 x1, .slice B2 x2.length d2] 49)).drew = ws at *
              have q0 := R3.c0
              clear u0 u1 z0 z1 u0' u1' z0' z1' c0 c1 c2 hin hkp i3 p0 p1
              go_wp2
              go_roundw
              case rel => exact ⟨k + 1, by omega, by go_num, by rw [HLB.out], HP, by rw [HTL.out]; exact R1, R2⟩
              case measure => simp [intOf]; omega
    · have hkl : k = pr.length := by omega
      subst hkl
      rw [List.take_length] at hin
      have E := Lib.hid (show t = true by rw [HT.out]; have := hpo.out; rwa [List.take_length] at this)
      have HI := Lib.hid hin
      clear hin hpo
      go_wp2
      go_ret
      exact ⟨ret_bool E.out.symm, hkp, fun _ => HI.out⟩
end Go.Proofs.Ytbkdhjmfphhhoaa

/- The program tests a seat of an instance, by its contract. -/
namespace Go.Proofs.Ytbkdhjmfphhhoaa
open Go.RowKit

def seatP (pr : List Pr) (m : Int) (a : Ac) : Bool := a.ok && bornA pr m a && bornB pr m a
theorem bornA_yes {pr : List Pr} {m : Int} {a : Ac} (h : ∀ b : Nat, a.2.1 < (b : Int) → b < 21 → Nat.testBit (tlB pr (b : Int)).2 (m.toNat - 1) = false) : bornA pr m a = true := by
  simp only [bornA, List.all_eq_true, List.mem_range, Bool.not_eq_true', Bool.and_eq_false_imp, decide_eq_true_eq]
  intro b hb hl
  exact h b hl hb
theorem bornA_no {pr : List Pr} {m : Int} {a : Ac} {b : Nat} (hb : b < 21) (h1 : a.2.1 < (b : Int)) (h2 : Nat.testBit (tlB pr (b : Int)).2 (m.toNat - 1) = true) : bornA pr m a = false := by
  rw [Bool.eq_false_iff]
  intro h
  simp only [bornA, List.all_eq_true, List.mem_range, Bool.not_eq_true', Bool.and_eq_false_imp, decide_eq_true_eq] at h
  rw [h b hb h1] at h2
  cases h2
theorem tlB_lt {pr : List Pr} (h : prOk 0 pr = true) (b : Int) : (tlB pr b).2 < 64 := by
  unfold tlB
  cases e : fnd pr b with
  | none => simp
  | some p => exact msk_lt (prOk_mem h p (fnd_some e).1).2.2.2

theorem contains_at (s n : Nat) (w : World) (hs : s < 64) (hn : n < 6) :
    Calls Try.prog 142 #[.int .u8 s, .int .i64 ((n : Int) + 1)] w fun e w' => e = .returned (.bool (Nat.testBit s (((n + 1 : Nat) : Int).toNat - 1))) ∧ w = w' :=
  (contains_in s ((n : Int) + 1) w hs (by omega) (by omega)).mono fun _ _ ⟨he, hw⟩ => ⟨by rw [he]; rfl, hw⟩
set_option maxRecDepth 100000 in
set_option maxHeartbeats 3200000 in
theorem bears_any (g n : Nat) (p q : Value) (ac : List Ac) (pr : List Pr) (w : World) (hI : IN w g p q ac (tlOf pr)) (hp : prOk 0 pr = true) (hn : n < 6) :
    Calls Try.prog 113 #[.pointer (some ⟨g, 0, none⟩), .int .i64 ((n + 1 : Nat) : Int)] w fun e w' => e = .returned (.bool (seatP pr ((n + 1 : Nat) : Int) (acAt ac ((n + 1 : Nat) : Int)))) ∧ Below w.heap.size w w' := by
  obtain ⟨y, hy⟩ : ∃ y, ac[n]? = some y := ⟨_, List.getElem?_eq_getElem (by rw [hI.2.1]; exact hn)⟩
  have hya : acAt ac ((n + 1 : Nat) : Int) = y := by
    unfold acAt
    have : (((n + 1 : Nat) : Int)).toNat - 1 = n := by omega
    rw [this]
    simp [List.getD, hy]
  rw [hya]
  obtain ⟨a0, a1, a2⟩ := hI.acc hy
  obtain ⟨t, ht⟩ : ∃ t, t = seatP pr ((n + 1 : Nat) : Int) y := ⟨_, rfl⟩
  rw [← ht]
  have HT := Lib.hid ht
  have HP := Lib.hid hp
  clear ht hy hya hp
  obtain ⟨y0, y1, y2⟩ := y
  have hn0 : (0 : Int) ≤ (n : Int) := by omega
  have hn6 : (n : Int) < 6 := by omega
  have hgl := hI.lt
  have bw := (Below.refl _ w).alloc (Nat.le_refl w.heap.size) (.cells #[.int .i64 y0, .int .i64 y1, .int .i64 y2] 35)
  have ab := AF3.new w y0 y1 y2 35
  have in1 := hI.below bw
  clear hI
  go_enter Try.func113, Try.ntmps113
  go_wp2_with fail
  refine (impValid_any y0 y1 y2 _).mono ?_
  rintro e w1 ⟨rfl, b1⟩
  have B1 := below_step bw b1
  have ab1 := ab.below b1
  have in2 := in1.below b1
  obtain ⟨c0, c1, c2⟩ := cells3 ab1.ab
  clear bw ab in1 b1 a0 a1 a2
  cases hok : okA y0 y1 y2
  · have E := Lib.hid (show t = false by rw [HT.out, seatP]; simp [Ac.ok, hok])
    clear hok
    go_wp2
    go_ret
    exact ⟨ret_bool E.out.symm, B1⟩
  · have hyy : 0 ≤ y1 ∧ y1 ≤ 20 := by simp [okA] at hok; omega
    obtain ⟨k, rfl⟩ : ∃ k : Nat, y1 = (k : Int) := ⟨y1.toNat, by omega⟩
    have HO := Lib.hid hok
    have hk20 : (k : Int) ≤ 20 := hyy.2
    clear hok hyy
    by_cases hk : k = 20
    · subst hk
      have HA := Lib.hid (show bornA pr ((n + 1 : Nat) : Int) (y0, 20, y2) = true from bornA_yes (pr := pr) (a := (y0, 20, y2)) fun b h1 h2 => by have : (20 : Int) < (b : Int) := h1; omega)
      have hkw : IntKind.i64.wrap ((20 : Int) + 1) = 21 := by rw [IntKind.wrap_i64]; omega
      go_wp2
      go_quiet (fail)
      have hin := in2.drew nq
      have hbel := below_drewN B1 nq
      have hab : AF3 (w1.drewN nq) w.heap.size y0 20 y2 := ab1
      clear c0 c1 c2 ab1 in2 B1
      generalize w1.drewN nq = wr at *
      obtain ⟨r0, r1⟩ := hin.tal (b := 20) (tlOf_at pr (by omega))
      have u0 : wr.cell? ⟨g, 60, none⟩ = some (.int .i64 (tlB pr ((20 : Nat) : Int)).1) := r0
      have u1 : wr.cell? ⟨g, 61, none⟩ = some (.int .u8 (tlB pr ((20 : Nat) : Int)).2) := r1
      clear r0 r1
      have hlt64 := tlB_lt HP.out ((20 : Nat) : Int)
      obtain ⟨⟨v, mm⟩, htl⟩ : ∃ x, x = tlB pr ((20 : Nat) : Int) := ⟨_, rfl⟩
      rw [← htl] at u0 u1 hlt64
      have HTL := Lib.hid htl
      obtain ⟨c0, c1, c2⟩ := cells3 hab.ab
      have hgl2 := hin.lt
      have hgne : g ≠ wr.heap.size := by omega
      have hane : w.heap.size < wr.heap.size := hab.lt
      have B2 := Lib.hid ((hbel.alloc hbel.size (.cells #[.int .i64 v, .int .u8 (mm : Int)] 142)))
      have hE : ∀ x : Bool, x = (Nat.testBit mm (((n + 1 : Nat) : Int).toNat - 1) && v == y2) → t = x := fun x hx => by
        have e1 : bornB pr ((n + 1 : Nat) : Int) (y0, 20, y2) = (Nat.testBit mm (((n + 1 : Nat) : Int).toNat - 1) && v == y2) := by
          unfold bornB
          rw [show tlB pr (y0, (20 : Int), y2).2.1 = (v, mm) from HTL.out.symm]
          rfl
        rw [HT.out, seatP, hx]
        rw [show Ac.ok (y0, ((20 : Nat) : Int), y2) = true from HO.out]
        have e2 := HA.out
        show (true && bornA pr ((n + 1 : Nat) : Int) (y0, 20, y2) && bornB pr ((n + 1 : Nat) : Int) (y0, 20, y2)) = _
        rw [e2, e1]
        rfl
      have HE := Lib.hid hE
      clear htl hin hab hbel hE HT HA HO HTL hk20 hkw
      go_wp2
      go_loopw [27] (fun i wq => i = .int .i64 0 ∧ wr = wq) (fun _ _ => 0)
      case atStart => exact ⟨rfl, rfl⟩
      case round =>
        obtain ⟨rfl, rfl⟩ := hrel
        go_wp2
        go_region
        have B3 := Lib.hid (below_drewN B2.out 1)
        clear B2
        have CT := fun w => contains_at mm n w hlt64 hn
        cases hbit : Nat.testBit mm (((n + 1 : Nat) : Int).toNat - 1)
        all_goals rw [hbit] at CT
        · have E := Lib.hid (HE.out false (by rw [hbit]; rfl))
          clear hbit HE
          go_wp2_with fail
          refine (CT _).mono ?_
          rintro e w' ⟨rfl, rfl⟩
          clear CT
          go_wp2
          go_ret
          exact ⟨ret_bool E.out.symm, B3.out⟩
        · by_cases hvy : v = y2
          · have E := Lib.hid (HE.out true (by rw [hbit]; simp [hvy]))
            have hv1 : (v == y2) = true := by simpa using hvy
            clear hbit hvy HE
            go_wp2_with fail
            refine (CT _).mono ?_
            rintro e w' ⟨rfl, rfl⟩
            clear CT
            go_wp2
            go_ret
            exact ⟨ret_bool E.out.symm, B3.out⟩
          · have E := Lib.hid (HE.out false (by rw [hbit]; simp [hvy]))
            have hv1 : (v == y2) = false := by simpa using hvy
            clear hbit hvy HE
            go_wp2_with fail
            refine (CT _).mono ?_
            rintro e w' ⟨rfl, rfl⟩
            clear CT
            go_wp2
            go_ret
            exact ⟨ret_bool E.out.symm, B3.out⟩
    · have hk19 : (k : Int) + 1 ≤ 20 := by omega
      have hk0 : (0 : Int) ≤ (k : Int) + 1 := by omega
      have hk1 : (k : Int) + 1 ≤ 21 := by omega
      have hk2 : k + 1 ≤ 21 := by omega
      have hkt : ((k : Int) + 1).toNat = k + 1 := by omega
      have hkw : IntKind.i64.wrap ((k : Int) + 1) = (k : Int) + 1 := by rw [IntKind.wrap_i64]; omega
      go_wp2
      go_quiet (fail)
      have hin := in2.drew nq
      have hbel := below_drewN B1 nq
      have hab : AF3 (w1.drewN nq) w.heap.size y0 (k : Int) y2 := ab1
      clear c0 c1 c2 ab1 in2 B1
      generalize w1.drewN nq = ws at *
      obtain ⟨L, hL⟩ : ∃ L, L = 20 - k := ⟨_, rfl⟩
      rw [← hL]
      have hLk : k + L = 20 := by omega
      clear hL hkw hkt
      go_wp2
      go_loopw [27] (fun i wr => ∃ j : Nat, j ≤ L ∧ i = .int .i64 j ∧ Hid (∀ b : Nat, k < b → b < k + 1 + j → Nat.testBit (tlB pr (b : Int)).2 (((n + 1 : Nat) : Int).toNat - 1) = false) ∧ IN wr g p q ac (tlOf pr) ∧ AF3 wr w.heap.size y0 (k : Int) y2 ∧ Below w.heap.size w wr) (fun i _ => L - (intOf i).toNat)
      case atStart => exact ⟨0, Nat.zero_le _, rfl, fun b h1 h2 => by omega, hin, hab, hbel⟩
      case round =>
        clear hin hab hbel
        obtain ⟨j, hj, rfl, hno, hin, hab, hbel⟩ := hrel
        by_cases hlt : j < L
        · obtain ⟨u0, u1⟩ := hin.tal (b := k + 1 + j) (tlOf_at pr (by omega))
          rw [show 20 + (k + 1 + j) * 2 = 20 + (k + 1) * 2 + j * 2 by omega] at u0 u1
          have hlt64 := tlB_lt HP.out ((k + 1 + j : Nat) : Int)
          obtain ⟨⟨v, mm⟩, htl⟩ : ∃ x, x = tlB pr ((k + 1 + j : Nat) : Int) := ⟨_, rfl⟩
          rw [← htl] at u0 u1 hlt64
          have HTL := Lib.hid htl
          have hj0 : (0 : Int) ≤ (j : Int) := by omega
          have hj1 : (j : Int) < (L : Int) := by omega
          have bw := (Below.refl _ wr).alloc (Nat.le_refl wr.heap.size) (.cells #[.int .i64 v, .int .u8 (mm : Int)] 142)
          have R := Lib.hid (And.intro (hin.below bw) (And.intro (hab.below bw) (below_step hbel bw)))
          clear htl hin hab hbel bw
          have CT := fun w => contains_at mm n w hlt64 hn
          cases hbit : Nat.testBit mm (((n + 1 : Nat) : Int).toNat - 1)
          all_goals rw [hbit] at CT
          · have HN := Lib.hid (show ∀ b : Nat, k < b → b < k + 1 + (j + 1) → Nat.testBit (tlB pr (b : Int)).2 (((n + 1 : Nat) : Int).toNat - 1) = false from fun b h1 h2 => by
              by_cases e : b = k + 1 + j
              · rw [e, ← HTL.out]; exact hbit
              · exact hno.out b h1 (by omega))
            clear hbit hno
            go_wp2_with fail
            refine (CT _).mono ?_
            rintro e w' ⟨rfl, rfl⟩
            clear CT u0 u1
            go_wp2
            go_roundw
            case rel => exact ⟨j + 1, by omega, by go_num, HN, R.out.1, R.out.2.1, R.out.2.2⟩
            case measure => simp [intOf]; omega
          · have E := Lib.hid (show t = false by
              rw [HT.out, seatP, bornA_no (b := k + 1 + j) (by omega) (show (k : Int) < _ by omega) (by rw [← HTL.out]; exact hbit)]
              simp)
            clear hbit hno
            go_wp2_with fail
            refine (CT _).mono ?_
            rintro e w' ⟨rfl, rfl⟩
            clear CT u0 u1
            go_wp2
            go_ret
            exact ⟨ret_bool E.out.symm, R.out.2.2⟩
        · have hjl : j = L := by omega
          subst hjl
          have HA := Lib.hid (show bornA pr ((n + 1 : Nat) : Int) (y0, (k : Int), y2) = true from bornA_yes (pr := pr) (a := (y0, (k : Int), y2)) fun b h1 h2 => hno.out b (by have : (k : Int) < (b : Int) := h1; omega) (by omega))
          obtain ⟨u0, u1⟩ := hin.tal (b := k) (tlOf_at pr (by omega))
          have hkk0 : (0 : Int) ≤ (k : Int) := by omega
          have hkk1 : (k : Int) < 21 := by omega
          have hlt64 := tlB_lt HP.out (k : Int)
          obtain ⟨⟨v, mm⟩, htl⟩ : ∃ x, x = tlB pr (k : Int) := ⟨_, rfl⟩
          rw [← htl] at u0 u1 hlt64
          have HTL := Lib.hid htl
          obtain ⟨c0, c1, c2⟩ := cells3 hab.ab
          have hgl2 := hin.lt
          have hgne : g ≠ wr.heap.size := by omega
          have hane : w.heap.size < wr.heap.size := hab.lt
          have B2 := Lib.hid ((hbel.alloc hbel.size (.cells #[.int .i64 v, .int .u8 (mm : Int)] 142)))
          clear htl hno hin hab hbel
          go_wp2
          go_region
          have B3 := Lib.hid (below_drewN B2.out 1)
          have hE : ∀ x : Bool, x = ((k : Int) == 0 || (Nat.testBit mm (((n + 1 : Nat) : Int).toNat - 1) && v == y2)) → t = x := fun x hx => by
            rw [HT.out, seatP, HA.out, hx]
            unfold bornB
            rw [show Ac.ok (y0, (k : Int), y2) = true from HO.out, ← HTL.out]
            rfl
          have HE := Lib.hid hE
          clear hE HT HA HO HTL B2
          by_cases hkz : k = 0
          · have hz : ((k : Int) == 0) = true := by simp [hkz]
            have E := Lib.hid (HE.out true (by rw [hz]; rfl))
            clear hkz
            go_wp2
            go_ret
            exact ⟨ret_bool E.out.symm, B3.out⟩
          · have hz : ((k : Int) == 0) = false := by rw [beq_eq_false_iff_ne]; omega
            have hz2 : ¬ (k : Int) = 0 := by omega
            have CT := fun w => contains_at mm n w hlt64 hn
            cases hbit : Nat.testBit mm (((n + 1 : Nat) : Int).toNat - 1)
            all_goals rw [hbit] at CT
            · have E := Lib.hid (HE.out false (by rw [hz, hbit]; rfl))
              clear hbit
              go_wp2_with fail
              refine (CT _).mono ?_
              rintro e w' ⟨rfl, rfl⟩
              clear CT
              go_wp2
              go_ret
              exact ⟨ret_bool E.out.symm, B3.out⟩
            · by_cases hvy : v = y2
              · have E := Lib.hid (HE.out true (by rw [hz, hbit]; simp [hvy]))
                have hv1 : (v == y2) = true := by simpa using hvy
                clear hbit hvy
                go_wp2_with fail
                refine (CT _).mono ?_
                rintro e w' ⟨rfl, rfl⟩
                clear CT
                go_wp2
                go_ret
                exact ⟨ret_bool E.out.symm, B3.out⟩
              · have E := Lib.hid (HE.out false (by rw [hz, hbit]; simp [hvy]))
                have hv1 : (v == y2) = false := by simpa using hvy
                clear hbit hvy
                go_wp2_with fail
                refine (CT _).mono ?_
                rintro e w' ⟨rfl, rfl⟩
                clear CT
                go_wp2
                go_ret
                exact ⟨ret_bool E.out.symm, B3.out⟩
end Go.Proofs.Ytbkdhjmfphhhoaa

/- The program makes an instance of a run, by contracts. -/
namespace Go.Proofs.Ytbkdhjmfphhhoaa
open Go.RowKit

theorem run_copy3 {P : Program} (w : World) (dT sT ty elem : TypeId) (g o dLen dCap : Nat) (a : Addr) (sLen sCap n : Nat) (cur : Array Value) (t : TypeId) (cs : List Value)
    (hu : P.underlying dT = some (.slice elem)) (hs : (P.info? elem).map (·.size) = some 3)
    (hg : w.heap[g]? = some (.cells cur t (0, 0))) (hm : Nat.min sLen dLen = n) (hn : cs.length = n * 3)
    (hsrc : ∀ j v, cs[j]? = some v → w.cell? (a.add j) = some v) (hfit : o + cs.length ≤ cur.size) (h1 : ∀ v ∈ cs, v.oneCell' = true) :
    (Builtin.copy_ #[dT, sT] ty #[.slice (some ⟨g, o, none⟩) dLen dCap, .slice (some a) sLen sCap]).run P w =
      .ok (goInt n) (w.setRow g (cur.toList.take o ++ cs ++ cur.toList.drop (o + cs.length)).toArray) := by
  have hl := run_loadCells_list (P := P) w a cs hsrc
  have hst := run_storeCells_at P g o t cs 0 cur w hg (by simpa using hfit) h1
  cases hq : P.info? elem with
  | none => simp [hq] at hs
  | some i =>
    have hi : i.size = 3 := by simpa [hq] using hs
    simp [Builtin.copy_, run_underlying hu, Builtin.lenOf, Builtin.firstCells, sizeOf, typeInfo, hq, hi, hm, ← hn, hl, hst]
theorem step_copy3 {P : Program} {ops : Array Oper} {o : Oper} {a : Act} {w : World} {K : Act → World → Prop} {Q : Exit → Act → World → Prop} {E : Prop} (hgd : o.guard = none) (d s : Operand) (dT sT : TypeId)
    (ho : o.op = .call { callee := .builtin .copy, args := #[d, s], argTypes := #[dT, sT] }) (elem : TypeId) (hu : P.underlying dT = some (.slice elem)) (hsz : (P.info? elem).map (·.size) = some 3)
    (g off dLen dCap : Nat) (ad : Addr) (sLen sCap n : Nat) (hd : a.eval d = .slice (some ⟨g, off, none⟩) dLen dCap) (hs : a.eval s = .slice (some ad) sLen sCap)
    (cur : Array Value) (t : TypeId) (hg : w.heap[g]? = some (.cells cur t (0, 0))) (cs : List Value) (hm : Nat.min sLen dLen = n) (hn : cs.length = n * 3)
    (hsrc : ∀ j v, cs[j]? = some v → w.cell? (ad.add j) = some v) (hfit : off + cs.length ≤ cur.size) (h1 : ∀ v ∈ cs, v.oneCell' = true)
    (h : ∀ w', w' = w.setRow g (cur.toList.take off ++ (cs ++ cur.toList.drop (off + cs.length))).toArray → K (a.put o.dst (goInt n)) w') :
    if Region.wanted o (yielded ops a.tmps) = true then Oper.wp P o a w K Q else E := by
  have hw : Region.wanted o (yielded ops a.tmps) = true := by simp [Region.wanted, hgd]
  rw [if_pos hw]
  have hrun := run_copy3 (P := P) w dT sT o.type elem g off dLen dCap ad sLen sCap n cur t cs hu hsz hg hm hn hsrc hfit h1
  unfold Oper.wp
  simp [execOp, ho, resolve, invoke, builtin, hd, hs, hrun, Result.andThen]
  exact h _ rfl
theorem acs_one {l : List Ac} : ∀ v ∈ acs l, v.oneCell' = true := by
  intro v hv
  simp only [acs, List.mem_flatMap, List.mem_cons, List.not_mem_nil, or_false] at hv
  obtain ⟨x, _, rfl | rfl | rfl⟩ := hv <;> rfl
theorem ins_copy {p q : Value} {ac ac' : List Ac} {tl : List Tl} (h : ac.length = 6) (h' : ac'.length = 6) : (insCells p q ac tl).take 2 ++ acs ac' ++ (insCells p q ac tl).drop (2 + (acs ac').length) = insCells p q ac' tl := by
  have e : (acs ac').length = (acs ac).length := by rw [acs_len, acs_len, h, h']
  unfold insCells
  simp [e, Nat.add_comm 2]
theorem copy_in {w : World} {g : Nat} {p q : Value} {ac ac' : List Ac} {tl : List Tl} (h : IN w g p q ac tl) (h' : ac'.length = 6) :
    IN (w.setRow g ((insCells p q ac tl).toArray.toList.take 2 ++ (acs ac' ++ (insCells p q ac tl).toArray.toList.drop (2 + (acs ac').length))).toArray) g p q ac' tl ∧
    Keep g (g + 1) w (w.setRow g ((insCells p q ac tl).toArray.toList.take 2 ++ (acs ac' ++ (insCells p q ac tl).toArray.toList.drop (2 + (acs ac').length))).toArray) := by
  refine ⟨⟨?_, h', h.2.2⟩, ⟨rfl, rfl, rfl, by simp [World.setRow], fun i _ hi => setRow_other w g i _ (by omega)⟩⟩
  have := setRow_heap w g _ ((insCells p q ac tl).toArray.toList.take 2 ++ (acs ac' ++ (insCells p q ac tl).toArray.toList.drop (2 + (acs ac').length))).toArray _ _ h.1
  rw [this]
  congr 2
  rw [show (insCells p q ac tl).toArray.toList = insCells p q ac tl from rfl, ← List.append_assoc, ins_copy h.2.1 h']

/-- What the making of an instance of a run hands back. -/
def InsOf (w : World) (r : Rn) (e : Ending) (w' : World) : Prop :=
  Below w.heap.size w w' ∧ ((runOk r = false ∧ e = .returned (.tuple #[.pointer none, .bool false])) ∨
    (runOk r = true ∧ ∃ g, e = .returned (.tuple #[.pointer (some ⟨g, 0, none⟩), .bool true]) ∧ w.heap.size ≤ g ∧ Inst w' g r))

set_option maxRecDepth 100000 in
set_option maxHeartbeats 3200000 in
theorem insOf_any (A B C D : Option Addr) (c d e f : Nat) (r : Rn) (w : World) (h : Reads w A B C D r) (hl : RLen r 1048576) :
    Calls Try.prog 61 #[RVal A B C D c d e f r] w (InsOf w r) := by
  have ba : Below w.heap.size w (w.alloc (.cells #[.slice A r.P.length c, .slice B r.Q.length d, .slice C r.ac.length e, .slice D r.pr.length f] 30)) := (Below.refl _ w).alloc (Nat.le_refl _) _
  have rb := RB.new w (.slice A r.P.length c) (.slice B r.Q.length d) (.slice C r.ac.length e) (.slice D r.pr.length f) 30
  have H := Lib.hid (And.intro h hl)
  clear h hl
  go_enter Try.func61, Try.ntmps61
  go_wp2_with fail
  refine (newI_any _ _ _ _ _ _ _ (H.out.1.P.below ba) (H.out.1.Q.below ba) H.out.2.P H.out.2.sP H.out.2.Q H.out.2.sQ).mono ?_
  rintro e w1 ⟨b1, ⟨hc, rfl⟩ | ⟨hc, g, rfl, hg, hI⟩⟩
  · have E := Lib.hid (And.intro (below_step ba b1) (show runOk r = false from rv_no fun ho => by rw [(runOk_parts ho).1] at hc; cases hc))
    clear hc b1 ba rb
    go_wp2
    go_ret2
    exact ⟨E.out.1, .inl ⟨E.out.2, rfl⟩⟩
  · have B1 := below_step ba b1
    have rb1 := rb.below b1
    have hgw : w.heap.size + 1 ≤ g := by simpa using hg
    have q2 := rb1.c2
    have q3 := rb1.c3
    have HC := Lib.hid (And.intro hc B1)
    clear hc ba rb b1 hg
    by_cases h6 : r.ac.length = 6
    · have e6 : ((r.ac.length : Int) != 6) = false := by simp [h6]
      obtain ⟨w0, A0, B0, c0, d0, hin, iA, iB, hb0, hg0⟩ := hI
      have HI := Lib.hid (And.intro iA (And.intro iB (And.intro hb0 hg0)))
      clear iA iB hb0 hg0
      have hin : IN w1 g (.slice A0 (msks r.P).length c0) (.slice B0 (msks r.Q).length d0) (List.replicate 6 (0, 0, 0)) (tlOf []) := hin
      obtain ⟨p, hp⟩ : ∃ p, p = Value.slice A0 (msks r.P).length c0 := ⟨_, rfl⟩
      obtain ⟨q, hq⟩ : ∃ q, q = Value.slice B0 (msks r.Q).length d0 := ⟨_, rfl⟩
      have HPQ := Lib.hid (And.intro hp hq)
      rw [← hp, ← hq] at hin
      clear hp hq
      go_wp2_with fail
      refine (addP_any g p q _ _ _ _ w w1 hin H.out.1.pr HC.out.2 (by omega) H.out.2.pr H.out.2.sv).mono ?_
      rintro e w2 ⟨rfl, k2, hadd⟩
      have B2 := below_keep HC.out.2 k2 (by omega)
      have rb2 : RB w2 w.heap.size (.slice A r.P.length c) (.slice B r.Q.length d) (.slice C r.ac.length e) (.slice D r.pr.length f) := rb1.kept (k2.block _ rb1.lt (by omega))
      have HB0 := Lib.hid (below_keep HI.out.2.2.1 k2 HI.out.2.2.2)
      clear q2 q3 rb1 k2 hin
      have q2 := rb2.c2
      cases hpo : prOk 0 r.pr
      · have E := Lib.hid (show runOk r = false from rv_no fun ho => by rw [(runOk_parts ho).2.2.1] at hpo; cases hpo)
        clear hpo hadd
        go_wp2
        go_ret2
        exact ⟨B2, .inl ⟨E.out, rfl⟩⟩
      · have hin := hadd hpo
        have HPO := Lib.hid hpo
        clear hpo hadd
        rcases H.out.1.ac.below B2 with h0 | ⟨b5, off5, hCe, hb5, hsrc⟩
        · rw [h0] at h6; cases h6
        · subst hCe
          have hgz := hin.1
          have hacl : (acs r.ac).length = 6 * 3 := by rw [acs_len, h6]
          have hfit : 2 + (acs r.ac).length ≤ (insCells p q (List.replicate 6 (0, 0, 0)) (tlOf r.pr)).toArray.size := by
            simp [insCells, acs_len, tls_len, hin.2.2, h6]
          have hs' : ∀ j v, (acs r.ac)[j]? = some v → w2.drew.cell? ((⟨b5, off5, none⟩ : Addr).add j) = some v := fun j v hv => by
            rw [Addr.add_lit]; exact hsrc j v hv
          have HCP := Lib.hid (copy_in (hin.drew 1) h6)
          have h6n : r.ac.length ≤ 6 := by omega
          obtain ⟨i0, hi0, hz0, hz1, hz2⟩ := info_parts acp_info
          go_wp2
          go_region_law (first
            | (refine step_copy3 rfl (.tmp 31) (.tmp 33) 27 27 rfl 35 Try.underlying27 (by kernel_rfl) g 2 6 6 ⟨b5, off5, none⟩ 6 e 6 rfl rfl _ _ hgz (acs r.ac) rfl hacl hs' hfit acs_one ?_; intro w3 hw3; have HW := Lib.hid (show IN w3 g p q r.ac (tlOf r.pr) ∧ Keep g (g + 1) (w2.drewN 1) w3 by rw [hw3]; exact HCP.out); clear hw3)
            | fail)
          have h21 := HW.out.1
          have B3 := below_keep (below_drewN B2 1) HW.out.2 (by omega)
          have HB3 := Lib.hid (below_keep (below_drewN HB0.out 1) HW.out.2 HI.out.2.2.2)
          clear hgz hsrc hs' hfit hacl HCP hin q2 rb2 B2 HB0 HW
          go_wp2
          go_loopw [6] (fun i wr => ∃ k : Nat, k ≤ 6 ∧ i = .int .i64 ((k + 1 : Nat) : Int) ∧ Hid (∀ m ∈ six, m ≤ (k : Int) → seatOk r.pr m (acAt r.ac m) = true) ∧ IN wr g p q r.ac (tlOf r.pr) ∧ Below w.heap.size w wr ∧ Hid (Below w0.heap.size w0 wr)) (fun i _ => 8 - (intOf i).toNat)
          case atStart => exact ⟨0, by omega, rfl, fun m hm h1 => by have := six_iff.1 hm; omega, h21, B3, HB3⟩
          case round =>
            clear h21 B3 HB3
            obtain ⟨k, hk6, rfl, hps, hin, hbel, hb0⟩ := hrel
            by_cases hlt : k < 6
            · have hle : ((k + 1 : Nat) : Int) ≤ 6 := by omega
              have hm6 : ((k + 1 : Nat) : Int) ∈ six := six_iff.2 (by omega)
              have hsb := seat_born HPO.out hm6 (acAt r.ac ((k + 1 : Nat) : Int))
              have BO := bears_any g k p q r.ac r.pr wr hin HPO.out hlt
              rw [show seatP r.pr ((k + 1 : Nat) : Int) (acAt r.ac ((k + 1 : Nat) : Int)) = seatOk r.pr ((k + 1 : Nat) : Int) (acAt r.ac ((k + 1 : Nat) : Int)) from hsb.symm] at BO
              cases hs : seatOk r.pr ((k + 1 : Nat) : Int) (acAt r.ac ((k + 1 : Nat) : Int))
              · rw [hs] at BO
                have E := Lib.hid (show runOk r = false from rv_no fun ho => by rw [seats_at (runOk_parts ho).2.2.2 hm6] at hs; cases hs)
                clear hs hsb hm6
                go_wp2_with fail
                refine BO.mono ?_
                rintro e w4 ⟨rfl, b4⟩
                have B4 := Lib.hid (below_step hbel b4)
                clear BO b4 hbel hin hb0
                go_wp2
                go_ret2
                exact ⟨B4.out, .inl ⟨E.out, rfl⟩⟩
              · rw [hs] at BO
                have HP := Lib.hid (show ∀ m ∈ six, m ≤ ((k + 1 : Nat) : Int) → seatOk r.pr m (acAt r.ac m) = true from fun m hm h1 => by
                  by_cases e : m = ((k + 1 : Nat) : Int)
                  · rw [e]; exact hs
                  · exact hps.out m hm (by omega))
                clear hs hsb hm6
                go_wp2_with fail
                refine BO.mono ?_
                rintro e w4 ⟨rfl, b4⟩
                have B4 := Lib.hid (And.intro (hin.below b4) (And.intro (below_step hbel b4) (below_step hb0.out b4)))
                clear BO b4 hbel hin hb0
                go_wp2
                go_roundw
                case rel => exact ⟨k + 1, by omega, by go_num, HP, B4.out.1, B4.out.2.1, B4.out.2.2⟩
                case measure => simp [intOf]; omega
            · have hk7 : k = 6 := by omega
              subst hk7
              have E := Lib.hid (show runOk r = true from runOk_of HC.out.1 h6 HPO.out (seats_of fun m hm => hps.out m hm (six_iff.1 hm).2))
              have E2 := Lib.hid (show Inst wr g r from ⟨w0, A0, B0, c0, d0, by rw [← HPQ.out.1, ← HPQ.out.2]; exact hin, HI.out.1, HI.out.2.1, hb0.out, HI.out.2.2.2⟩)
              clear hin hb0 hps
              go_wp2
              go_ret2
              exact ⟨hbel, .inr ⟨E.out, g, rfl, by omega, E2.out⟩⟩
    · have E := Lib.hid (show runOk r = false from rv_no fun ho => h6 (runOk_parts ho).2.1)
      have e6 : ((r.ac.length : Int) != 6) = true := by simp; omega
      clear h6 hI
      go_wp2
      go_ret2
      exact ⟨HC.out.2, .inl ⟨E.out, rfl⟩⟩
end Go.Proofs.Ytbkdhjmfphhhoaa
