/- The walk of the law that the dual expression describes the transversals. -/
import Derived.Test.YtgbijndfpbcjeaaGh
import Derived.Test.YtgbijndfpbcjeaaWDualg
import Derived.Test.YtgbijndfpbcjeaaGf
import Derived.Test.YtgbijndfpbcjeaaGb
namespace Go.Proofs.Ytgbijndfpbcjeaa
open Go.RowKit

theorem bx_list' (x : Ex) : (bx x).data.toList = tx x := by simp [bx]
theorem dual_of' {T : ByteArray} {x : Ex} (h : pT0 T = some x) : wf x ∧ dualX T = bx (dual x) ∧ pT0 (dualX T) = some (dual x) ∧ (dualX T).size ≤ 40 := by
  obtain ⟨_, hw, hl⟩ := bx_of h
  have e : dualX T = bx (dual x) := by unfold dualX; rw [h]
  have hl2 : (tx (dual x)).length ≤ 40 := by rw [dual_len x hw]; exact hl
  have hp : pT0 (dualX T) = some (dual x) := by
    rw [e]
    unfold pT0
    rw [bx_list']
    exact pX_tx (dual_wf x hw) hl2
  exact ⟨hw, e, hp, pT0_40 hp⟩
theorem sat_sub {a b : Nat} (ha : a < 64) (hb : b < 64) (h : sub a b = true) {x : Ex} (hs : sat a x = true) : sat b x = true := by
  refine sat_mono (s := a) (t := b) (fun i hi => ?_) x hs
  rw [sub_and ha hb] at h
  rw [← h, Nat.testBit_and] at hi
  simp at hi
  exact hi.2
theorem dual_hits {x : Ex} (hw : wf x) {s : Nat} (hs : s < 64) : sat s (dual x) = hitsQ (mins (satL' x)) s := by
  have hM := satL'_msk x
  rw [sat_dual hs x hw, Bool.eq_iff_iff, hits_iff]
  constructor
  · intro h k hk h0
    have hk6 := mins_lt _ k hk
    have h1 := (mem_satL'.1 ((mem_mins hM).1 hk).1).2
    have h2 := sat_sub hk6 (comp_lt s) ((comp_sub hk6 hs).2 h0) h1
    rw [h2] at h
    cases h
  · intro h
    cases h1 : sat (andNot 63 s) x
    · rfl
    · exfalso
      obtain ⟨k, hk, h2⟩ := mins_below hM _ _ (Nat.le_refl _) (mem_satL'.2 ⟨comp_lt s, h1⟩)
      exact h k hk ((comp_sub (mins_lt _ k hk) hs).1 h2)
theorem dual_trs {x : Ex} (hw : wf x) : satL' (dual x) = trs (mins (satL' x)) := List.filter_congr fun _ hs => dual_hits hw (List.mem_range.1 hs)
theorem ofEx_ok {x : Ex} (hw : wf x) : transOk (mems (mins (satL' x))) = true ∧ transM (mems (mins (satL' x))) = satL' (dual x) := by
  have hM := satL'_msk x
  have h0 : 0 ∉ satL' x := fun h => by
    have := (mem_satL'.1 h).2
    rw [sat_zero x hw] at this
    cases this
  have h1 := sys_famOk (mins_sys hM h0)
  have h2 := mins_ne hM (mem_satL'.2 ⟨by omega, sat_all x hw⟩ : 63 ∈ satL' x)
  refine ⟨?_, ?_⟩
  · simp only [transOk, h1, Bool.true_and, decide_eq_true_eq]
    rw [mems_len]
    exact List.length_pos_iff.2 h2
  · rw [transM, msks_mems (mins_lt _), dual_trs hw]

theorem drawOfEx_any (A : Option Addr) (c : Nat) (l : List Int) (w : World) (ha : BL w A l) (hc : l.length ≤ c) (hm : l.length ≤ maxLen) (hmc : c ≤ maxLen) :
    Calls Try.prog 19 #[.slice A l.length c] w (Text w) := by
  go_enter Try.func19, Try.ntmps19
  go_wp2_with fail
  refine (l6Open_any _ _ _ _ ha hc hm hmc).mono ?_
  rintro e w1 ⟨rfl, hr1, b1⟩
  go_wp2_with fail
  refine (l91Expr_any _ _ _ hr1 (by omega)).mono ?_
  rintro e w2 ⟨t, q, _, ht, rfl, hr2, hq, g2⟩
  have B2 := rd_below b1 g2
  clear b1 g2 hr1 hr2 ha
  go_wp2_with fail
  go_ret
  exact ⟨⟨t, by omega, rfl⟩, B2⟩

set_option maxRecDepth 100000 in
set_option maxHeartbeats 3200000 in
theorem walkDualTr (A : Option Addr) (c : Nat) (l : List Int) (w : World) (ha : BL w A l) (hc : l.length ≤ c) (hm : l.length ≤ maxLen) (hmc : c ≤ maxLen) :
    Calls Try.prog 4 #[.slice A l.length c] w fun e w' => e = .returned (.bool true) ∧ Below w.heap.size w w' := by
  have hm' := hm
  unfold maxLen at hm'
  by_cases hl : l.length ≤ 1048576
  · go_enter Try.func4, Try.ntmps4
    go_wp2_with fail
    refine (drawOfEx_any _ _ _ _ ha hc hm hmc).mono ?_
    rintro e w1 ⟨⟨T, hT, rfl⟩, B1⟩
    clear ha hm
    have hT2 : T.size ≤ 1048576 := by omega
    have hO := outM_len (expM T) (okX T)
    have sO := outM_short (expM T) (okX T)
    go_wp2_with fail
    refine (specOfEx_any T _ hT2).mono ?_
    rintro e w2 ⟨A2, c2, rfl, OW, b2⟩
    have B2 := below_step B1 b2
    clear B1 b2
    go_wp2_with fail
    refine (implOfEx_any T _ hT2).mono ?_
    rintro e w3 ⟨A3, c3, rfl, OG, b3⟩
    have i3 := (OW.below b3).iss
    have j3 := OG.iss
    have B3 := below_step B2 b3
    clear B2 b3 OW OG
    cases hp : pT0 T with
    | none =>
      have hok := okX_none hp
      clear hp
      generalize okX T = ok at *
      subst hok
      go_wp2_with fail
      refine (sameSets_yes _ _ _ _ _ _ j3 i3 (by omega) sO).mono ?_
      rintro e w4 ⟨rfl, d4⟩
      have B4 := below_step B3 d4.below
      have i4 := i3.below d4.below
      have j4 := j3.below d4.below
      clear B3 i3 j3 d4
      go_wp2_with fail
      refine (sameSets_yes _ _ _ _ _ _ j4 i4 (by omega) sO).mono ?_
      rintro e w5 ⟨rfl, d5⟩
      have B5 := below_step B4 d5.below
      clear B4 i4 j4 d5
      go_wp2
      go_ret
      exact ⟨rfl, B5⟩
    | some x =>
      have hok := okX_some hp
      obtain ⟨hw, hd1, hd2, hd3⟩ := dual_of' hp
      have hM : outM (expM T) true = mems (mins (satL' x)) := by rw [expM_some hp]; simp [outM]
      have hD : outM (expM (dualX T)) (okX (dualX T)) = mems (mins (satL' (dual x))) := by rw [expM_some hd2, okX_some hd2]; simp [outM]
      have HDO := Lib.hid (And.intro (okX_some hd2) hD)
      have HTR := Lib.hid (⟨(ofEx_ok hw).1, by rw [(ofEx_ok hw).2]; simp [outM]⟩ : transOk (mems (mins (satL' x))) = true ∧ outM (transM (mems (mins (satL' x)))) true = mems (mins (satL' (dual x))))
      have hdO := outM_len (expM (dualX T)) (okX (dualX T))
      have hdS := outM_short (expM (dualX T)) (okX (dualX T))
      rw [hD] at hdO hdS
      generalize okX T = ok at *
      subst hok
      rw [hM] at hO sO i3 j3 ⊢
      clear hp hw hd1 hd2 hM hD
      have hds : (dualX T).size ≤ 1048576 := by omega
      clear hd3
      generalize mems (mins (satL' (dual x))) = R at *
      generalize hFd : mems (mins (satL' x)) = F at *
      clear hFd
      have HDC := Lib.hid (fun W => implDualX T W hT2)
      have HOC := Lib.hid (fun W => implOfEx_any (dualX T) W hds)
      rw [HDO.out.1] at HOC
      rw [HDO.out.1] at HDO
      rw [HDO.out.2] at HOC
      clear HDO hds
      go_wp2_with fail
      refine (sameSets_yes _ _ _ _ _ _ j3 i3 (by omega) sO).mono ?_
      rintro e w4 ⟨rfl, d4⟩
      have B4 := below_step B3 d4.below
      have j4 := j3.below d4.below
      clear B3 i3 j3 d4
      go_wp2_with fail
      refine (HDC.out _).mono ?_
      rintro e w5 ⟨rfl, b5⟩
      have B5 := below_step B4 b5
      have j5 := j4.below b5
      clear B4 j4 b5 HDC
      generalize dualX T = DT at *
      go_wp2_with fail
      refine (HOC.out _).mono ?_
      rintro e w6 ⟨A6, c6, rfl, O6, b6⟩
      have B6 := below_step B5 b6
      have j6 := j5.below b6
      have i6 := O6.iss
      clear B5 j5 b6 O6 HOC
      go_wp2_with fail
      refine (implTrans_any _ _ _ _ j6 (by omega) sO).mono ?_
      rw [HTR.out.1, HTR.out.2]
      rintro e w7 ⟨A7, c7, rfl, O7, b7⟩
      have B7 := below_step B6 b7
      have i7 := i6.below b7
      have h7 := O7.iss
      clear B6 j6 i6 b7 O7
      go_wp2_with fail
      refine (sameSets_yes _ _ _ _ _ _ i7 h7 (by omega) hdS).mono ?_
      rintro e w8 ⟨rfl, d8⟩
      have B8 := below_step B7 d8.below
      clear B7 i7 h7 d8
      go_wp2
      go_ret
      exact ⟨rfl, B8⟩
  · go_enter Try.func4, Try.ntmps4
    go_wp2
    go_ret
    exact ⟨rfl, Below.refl _ _⟩
end Go.Proofs.Ytgbijndfpbcjeaa
