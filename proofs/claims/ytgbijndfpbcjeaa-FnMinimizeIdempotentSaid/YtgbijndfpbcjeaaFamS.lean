/- The reference model's quorum systems: their test and their quorums, by their contracts. -/
import Derived.Test.YtgbijndfpbcjeaaSSM
import Derived.Test.YtgbijndfpbcjeaaSpecM
namespace Go.Proofs.Ytgbijndfpbcjeaa
open Go.RowKit

set_option maxRecDepth 100000 in
set_option maxHeartbeats 1600000 in
theorem specValid_drew (A : Option Addr) (c : Nat) (l : List Int) (w : World) (ha : IL w A l) (hl : l.length ≤ 1048576) :
    Calls Try.prog 52 #[.slice A l.length c] w fun e w' => e = .returned (.bool (vld l)) ∧ ∃ n, w' = w.drewN n := by
  go_enter Try.func52, Try.ntmps52
  go_wp2
  go_loopw [3] (fun i wr => ∃ (k : Nat) (q : Int), k ≤ l.length ∧ i = .int .i64 k ∧ 0 ≤ q ∧ Hid (Last l k q) ∧ Hid (vf q (l.drop k) = vld l) ∧ Drew w wr) (fun i _ => l.length - (intOf i).toNat)
  case atStart => exact ⟨0, 0, Nat.zero_le _, rfl, by omega, .inl ⟨rfl, rfl⟩, rfl, Drew.refl _⟩
  case round =>
    obtain ⟨k, q, hk, rfl, hq0, hlast, hvf, hbel⟩ := hrel
    by_cases hlt : k < l.length
    · obtain ⟨b, off, x, hA, hx, hc⟩ := (ha.below hbel.below).at_ hlt
      have HX := Lib.hid hx
      clear hx
      have hki : (0 : Int) ≤ (k : Int) := by omega
      have hki2 : (k : Int) < (l.length : Int) := by omega
      by_cases hin : 1 ≤ x ∧ x ≤ 6
      · obtain ⟨hx1, hx6⟩ := hin
        rcases hlast.out with ⟨h0, rfl⟩ | ⟨j, rfl, hy⟩
        · subst hA
          have H1 := Lib.hid (vf_step HX.out hvf.out (by omega) hx6)
          have H0 := Lib.hid h0
          have hkd : decide (0 < k) = false := by simp; omega
          clear hlast h0
          go_wp2
          go_quiet ((go_at_call 79; exact Calls.quiet_of_same (l6In_yes _ _ _ _ hx1 hx6)))
          go_wp2
          go_roundw
          case rel => exact ⟨k + 1, x, by omega, by go_num, by omega, .inr ⟨k, rfl, HX.out⟩, H1.out, hbel.more _⟩
          case measure => simp [intOf]; omega
        · have hc2 : ∃ b off, A = some ⟨b, off, none⟩ ∧ wr.cell? ⟨b, off + j, none⟩ = some (.int .i64 q) := by
            obtain ⟨b, off, y, hA', hy', hc'⟩ := (ha.below hbel.below).at_ (k := j) (by omega)
            rw [hy] at hy'; obtain rfl := Option.some.inj hy'
            exact ⟨b, off, hA', hc'⟩
          obtain ⟨b', off', hA', hc'⟩ := hc2
          subst hA
          obtain ⟨rfl, rfl⟩ : b = b' ∧ off = off' := by injection hA' with h; injection h with h1 h2; exact ⟨h1, h2⟩
          clear hA' hy hlast
          have hj0 : (0 : Int) ≤ (j : Int) := by omega
          have hj1 : (j : Int) < (l.length : Int) := by omega
          by_cases hqx : q < x
          · have H1 := Lib.hid (vf_step HX.out hvf.out hqx hx6)
            go_wp2
            go_quiet ((go_at_call 79; exact Calls.quiet_of_same (l6In_yes _ _ _ _ hx1 hx6)))
            go_wp2
            go_roundw
            case rel => exact ⟨j + 1 + 1, x, by omega, by go_num, by omega, .inr ⟨j + 1, rfl, HX.out⟩, H1.out, hbel.more _⟩
            case measure => simp [intOf]; omega
          · have H1 := Lib.hid (vf_stop HX.out hvf.out (by omega))
            go_wp2
            go_quiet ((go_at_call 79; exact Calls.quiet_of_same (l6In_yes _ _ _ _ hx1 hx6)))
            go_wp2
            go_ret
            exact ⟨ret_bool H1.out.symm, hbel.more _⟩
      · subst hA
        have H1 := Lib.hid (vf_stop HX.out hvf.out (by omega))
        have ho : x < 1 ∨ 6 < x := by omega
        go_wp2
        go_quiet ((go_at_call 79; exact Calls.quiet_of_same (l6In_no _ _ _ _ ho)))
        go_wp2
        go_ret
        exact ⟨ret_bool H1.out.symm, hbel.more _⟩
    · have hkl : k = l.length := by omega
      subst hkl
      have H1 := Lib.hid (vf_end hvf.out)
      clear hvf hlast
      go_wp2
      go_ret
      exact ⟨ret_bool H1.out.symm, hbel⟩


/-- A callee that leaves the world as it is, in a region that draws. -/
theorem quiet_same {P : Program} {f : FuncId} {args : Array Value} {w : World} {n : Nat} {v : Value}
    (h : Calls P f args (w.drewN n) fun e w' => e = .returned v ∧ w.drewN n = w') : Calls P f args (w.drewN n) fun e w'' => e = .returned v ∧ ∃ m, w'' = w.drewN m :=
  h.mono fun _ _ ⟨he, hm⟩ => ⟨he, n, hm.symm⟩
theorem IL.drew {w : World} {A : Option Addr} {l : List Int} (h : IL w A l) (n : Nat) : IL (w.drewN n) A l := h.below (below_drewN (Below.refl _ _) n)

theorem hasL_take {F : List (List Int)} {k : Nat} {l s : List Int} (h : F[k]? = some l) : hasL (F.take (k + 1)) s = (hasL (F.take k) s || subs l s) := by
  simp [hasL, List.take_add_one, h]
theorem hasL_mem {F : List (List Int)} {k : Nat} {l s : List Int} (h : F[k]? = some l) (hs : subs l s = true) : hasL F s = true :=
  List.any_eq_true.2 ⟨l, List.mem_of_getElem? h, hs⟩

set_option maxRecDepth 100000 in
set_option maxHeartbeats 800000 in
theorem l3Has_any (A B : Option Addr) (c d : Nat) (F : List (List Int)) (s : List Int) (w : World) (ha : ISS w A F) (hb : IL w B s) (hl : F.length ≤ 1048576) (hs : Short F 1048576) (hls : s.length ≤ 1048576) :
    Calls Try.prog 72 #[.slice A F.length c, .slice B s.length d] w fun e w' => e = .returned (.bool (hasL F s)) ∧ w = w' := by
  go_enter Try.func72, Try.ntmps72
  go_wp2
  go_loop [5] (fun i => ∃ k : Nat, k ≤ F.length ∧ i = .int .i64 k ∧ Hid (hasL (F.take k) s = false)) (fun i => F.length - (intOf i).toNat)
  case atStart => exact ⟨0, Nat.zero_le _, rfl, by show _ = _; simp [hasL]⟩
  case round =>
    obtain ⟨k, hk, rfl, hnot⟩ := hrel
    by_cases hlt : k < F.length
    · obtain ⟨b, off, l, B', d', rfl, hx, hc, hil⟩ := ha.at_ hlt
      have hll := hs.at_ hx
      cases hsub : subs l s
      · have H := Lib.hid (show hasL (F.take (k + 1)) s = false by rw [hasL_take hx, hnot.out, hsub]; rfl)
        have HS := Lib.hid hsub
        clear hx hnot hsub
        go_wp2_with fail
        refine (l1Subset_any _ _ _ _ _ _ _ hil hb hll hls).mono ?_
        rintro e w' ⟨he, rfl⟩
        rw [HS.out] at he
        subst he
        go_wp2
        go_round
        case rel => exact ⟨k + 1, by omega, by go_num, H.out⟩
        case measure => simp [intOf]; omega
      · have H := Lib.hid (hasL_mem hx hsub)
        have HS := Lib.hid hsub
        clear hx hnot hsub
        go_wp2_with fail
        refine (l1Subset_any _ _ _ _ _ _ _ hil hb hll hls).mono ?_
        rintro e w' ⟨he, rfl⟩
        rw [HS.out] at he
        subst he
        go_wp2
        go_ret
        exact ⟨ret_bool H.out.symm, rfl⟩
    · have hkl : k = F.length := by omega
      subst hkl
      have H := Lib.hid (show hasL F s = false by have := hnot.out; rwa [List.take_length] at this)
      clear hnot
      go_wp2
      go_ret
      exact ⟨ret_bool H.out.symm, rfl⟩

/-- The mask of the last set that was read. -/
def lastm (F : List (List Int)) : Nat → Nat
  | 0 => 0
  | k + 1 => msk (F.getD k [])
/-- The first k sets have passed the test. -/
def FS (F : List (List Int)) (k : Nat) : Prop :=
  allV (F.take k) ∧ (∀ q ∈ msks (F.take k), q ≤ lastm F k) ∧ fv (msks (F.take k)) (lastm F k) (F.drop k) = fv [] 0 F
theorem FS.zero (F : List (List Int)) : FS F 0 := ⟨by simp [allV], by simp [msks], by simp [msks, lastm]⟩
theorem drop_l {F : List (List Int)} {k : Nat} {l : List Int} (h : F[k]? = some l) : F.drop k = l :: F.drop (k + 1) := by
  have hj : k < F.length := (List.getElem?_eq_some_iff.1 h).1
  rw [List.drop_eq_getElem_cons hj]; congr 1; exact Option.some.inj ((List.getElem?_eq_getElem hj).symm.trans h)
theorem take_l {F : List (List Int)} {k : Nat} {l : List Int} (h : F[k]? = some l) : F.take (k + 1) = F.take k ++ [l] := by simp [List.take_add_one, h]
theorem FS.bad {F : List (List Int)} {k : Nat} {l : List Int} (h : FS F k) (hx : F[k]? = some l) (hb : vld l = false ∨ msk l ≤ lastm F k ∨ hasQ (msks (F.take k)) (msk l) = true) : famOk F = false := by
  have h3 := h.2.2
  rw [drop_l hx, fv] at h3
  unfold famOk
  rw [← h3]
  rcases hb with hb | hb | hb
  · simp [hb]
  · simp [show ¬ lastm F k < msk l by omega]
  · simp [hb]
theorem FS.step {F : List (List Int)} {k : Nat} {l : List Int} (h : FS F k) (hx : F[k]? = some l) (h1 : vld l = true) (h2 : lastm F k < msk l) (h3 : hasQ (msks (F.take k)) (msk l) = false) : FS F (k + 1) := by
  have hlast : lastm F (k + 1) = msk l := by simp [lastm, hx]
  have hm : msks (F.take (k + 1)) = msks (F.take k) ++ [msk l] := by rw [take_l hx]; simp [msks]
  refine ⟨?_, ?_, ?_⟩
  · rw [take_l hx]
    intro a ha
    rcases List.mem_append.1 ha with h5 | h5
    · exact h.1 a h5
    · simp at h5; subst h5; exact h1
  · rw [hm, hlast]
    intro q hq
    rcases List.mem_append.1 hq with h5 | h5
    · have := h.2.1 q h5; omega
    · simp at h5; omega
  · have h4 := h.2.2
    rw [drop_l hx, fv, h1, h3] at h4
    rw [hm, hlast, ← h4]
    simp [h2]
theorem FS.end_ {F : List (List Int)} (h : FS F F.length) : famOk F = decide ((F.length : Int) ≤ 20) := by
  have := h.2.2
  rw [List.drop_length, fv] at this
  rw [famOk, ← this, Bool.and_true]
  exact decide_eq_decide.2 (by omega)
theorem msk_pos {l : List Int} (h : vld l = true) (hl : l.length ≠ 0) : 0 < msk l :=
  all_of (P := fun l => l.length ≠ 0 → 0 < msk l) (by decide +kernel) h hl
theorem msk_nil {l : List Int} (hl : l.length = 0) : msk l = 0 := by
  obtain rfl := List.eq_nil_of_length_eq_zero hl
  rfl
theorem FS.at_ {F : List (List Int)} {k j : Nat} {l m : List Int} (h : FS F k) (hj : j < k) (hm : F[j]? = some m) (h1 : vld l = true) (h2 : lastm F k < msk l) : vld m = true ∧ subs l m = false := by
  have hmt : m ∈ F.take k := List.mem_of_getElem? (i := j) (by rw [List.getElem?_take_of_lt hj]; exact hm)
  have hv := h.1 m hmt
  refine ⟨hv, ?_⟩
  rw [subs_sub h1 hv, Bool.eq_false_iff]
  intro hs
  have := sub_le (msk_lt h1) (msk_lt hv) hs
  have := h.2.1 (msk m) (List.mem_map.2 ⟨m, hmt, rfl⟩)
  omega
theorem hasQ_take {F : List (List Int)} {j : Nat} {l m : List Int} (hm : F[j]? = some m) (hv : vld m = true) (h1 : vld l = true) : hasQ (msks (F.take (j + 1))) (msk l) = (hasQ (msks (F.take j)) (msk l) || subs m l) := by
  rw [take_l hm, subs_sub hv h1]
  simp [msks, hasQ]
theorem hasQ_more {F : List (List Int)} {j k : Nat} {s : Nat} (hj : j ≤ k) (h : hasQ (msks (F.take j)) s = true) : hasQ (msks (F.take k)) s = true := by
  obtain ⟨q, hq, hs⟩ := mem_hasQ.1 h
  refine mem_hasQ.2 ⟨q, ?_, hs⟩
  obtain ⟨a, ha, rfl⟩ := List.mem_map.1 hq
  refine List.mem_map.2 ⟨a, ?_, rfl⟩
  rw [show F.take j = (F.take k).take j by rw [List.take_take, Nat.min_eq_left hj]] at ha
  exact List.mem_of_mem_take ha

end Go.Proofs.Ytgbijndfpbcjeaa
