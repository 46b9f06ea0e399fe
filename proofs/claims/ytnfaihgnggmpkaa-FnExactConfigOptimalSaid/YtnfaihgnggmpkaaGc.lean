/- The reference model's quorum systems: their test and their quorums, by their contracts. -/
import Derived.Test.YtnfaihgnggmpkaaGb
import Derived.Deep.RegionWith
import Derived.Test.YtnfaihgnggmpkaaGa
import Derived.BigRegion
import Derived.Maps.AppendAt
namespace Go.Proofs.Ytnfaihgnggmpkaa
open Go.RowKit

set_option maxRecDepth 100000 in
set_option maxHeartbeats 1600000 in
theorem specValid_drew (A : Option Addr) (c : Nat) (l : List Int) (w : World) (ha : IL w A l) (hl : l.length ≤ 1048576) :
    Calls Try.prog 55 #[.slice A l.length c] w fun e w' => e = .returned (.bool (vld l)) ∧ ∃ n, w' = w.drewN n := by
  go_enter Try.func55, Try.ntmps55
  go_wp2
  go_loopw [3] (fun i wr => ∃ (k : Nat) (q : Int), k ≤ l.length ∧ i = .int .i64 k ∧ 0 ≤ q ∧ Hid (Last l k q) ∧ Hid (vf q (l.drop k) = vld l) ∧ Drew w wr) (fun i _ => l.length - (intOf i).toNat)
  case atStart => exact ⟨0, 0, Nat.zero_le _, rfl, by omega, .inl ⟨rfl, rfl⟩, rfl, Drew.refl _⟩
  case round =>
    obtain ⟨k, q, hk, rfl, hq0, hlast, hvf, hbel⟩ := hrel
    by_cases hlt : k < l.length
    · obtain ⟨b, off, x, hA, hx, hc⟩ := (ha.below hbel.below).at_ hlt
      have HX := Lib.hid hx
      clear hx
      have hki : (0 : Int) ≤ (k : Int) := by omega
      have hki2 : (k : Int) < (l.length : Int) := by omega
      by_cases hin : 1 ≤ x ∧ x ≤ 6
      · obtain ⟨hx1, hx6⟩ := hin
        rcases hlast.out with ⟨h0, rfl⟩ | ⟨j, rfl, hy⟩
        · subst hA
          have H1 := Lib.hid (vf_step HX.out hvf.out (by omega) hx6)
          have H0 := Lib.hid h0
          have hkd : decide (0 < k) = false := by simp; omega
          clear hlast h0
          go_wp2
          go_quiet ((go_at_call 52; exact Calls.quiet_of_same (l6In_yes _ _ _ _ hx1 hx6)))
          go_wp2
          go_roundw
          case rel => exact ⟨k + 1, x, by omega, by go_num, by omega, .inr ⟨k, rfl, HX.out⟩, H1.out, hbel.more _⟩
          case measure => simp [intOf]; omega
        · have hc2 : ∃ b off, A = some ⟨b, off, none⟩ ∧ wr.cell? ⟨b, off + j, none⟩ = some (.int .i64 q) := by
            obtain ⟨b, off, y, hA', hy', hc'⟩ := (ha.below hbel.below).at_ (k := j) (by omega)
            rw [hy] at hy'; obtain rfl := Option.some.inj hy'
            exact ⟨b, off, hA', hc'⟩
          obtain ⟨b', off', hA', hc'⟩ := hc2
          subst hA
          obtain ⟨rfl, rfl⟩ : b = b' ∧ off = off' := by injection hA' with h; injection h with h1 h2; exact ⟨h1, h2⟩
          clear hA' hy hlast
          have hj0 : (0 : Int) ≤ (j : Int) := by omega
          have hj1 : (j : Int) < (l.length : Int) := by omega
          by_cases hqx : q < x
          · have H1 := Lib.hid (vf_step HX.out hvf.out hqx hx6)
            go_wp2
            go_quiet ((go_at_call 52; exact Calls.quiet_of_same (l6In_yes _ _ _ _ hx1 hx6)))
            go_wp2
            go_roundw
            case rel => exact ⟨j + 1 + 1, x, by omega, by go_num, by omega, .inr ⟨j + 1, rfl, HX.out⟩, H1.out, hbel.more _⟩
            case measure => simp [intOf]; omega
          · have H1 := Lib.hid (vf_stop HX.out hvf.out (by omega))
            go_wp2
            go_quiet ((go_at_call 52; exact Calls.quiet_of_same (l6In_yes _ _ _ _ hx1 hx6)))
            go_wp2
            go_ret
            exact ⟨ret_bool H1.out.symm, hbel.more _⟩
      · subst hA
        have H1 := Lib.hid (vf_stop HX.out hvf.out (by omega))
        have ho : x < 1 ∨ 6 < x := by omega
        go_wp2
        go_quiet ((go_at_call 52; exact Calls.quiet_of_same (l6In_no _ _ _ _ ho)))
        go_wp2
        go_ret
        exact ⟨ret_bool H1.out.symm, hbel.more _⟩
    · have hkl : k = l.length := by omega
      subst hkl
      have H1 := Lib.hid (vf_end hvf.out)
      clear hvf hlast
      go_wp2
      go_ret
      exact ⟨ret_bool H1.out.symm, hbel⟩


/-- A callee that leaves the world as it is, in a region that draws. -/
theorem quiet_same {P : Program} {f : FuncId} {args : Array Value} {w : World} {n : Nat} {v : Value}
    (h : Calls P f args (w.drewN n) fun e w' => e = .returned v ∧ w.drewN n = w') : Calls P f args (w.drewN n) fun e w'' => e = .returned v ∧ ∃ m, w'' = w.drewN m :=
  h.mono fun _ _ ⟨he, hm⟩ => ⟨he, n, hm.symm⟩
theorem IL.drew {w : World} {A : Option Addr} {l : List Int} (h : IL w A l) (n : Nat) : IL (w.drewN n) A l := h.below (below_drewN (Below.refl _ _) n)

theorem hasL_take {F : List (List Int)} {k : Nat} {l s : List Int} (h : F[k]? = some l) : hasL (F.take (k + 1)) s = (hasL (F.take k) s || subs l s) := by
  simp [hasL, List.take_add_one, h]
theorem hasL_mem {F : List (List Int)} {k : Nat} {l s : List Int} (h : F[k]? = some l) (hs : subs l s = true) : hasL F s = true :=
  List.any_eq_true.2 ⟨l, List.mem_of_getElem? h, hs⟩

set_option maxRecDepth 100000 in
set_option maxHeartbeats 800000 in
theorem l3Has_any (A B : Option Addr) (c d : Nat) (F : List (List Int)) (s : List Int) (w : World) (ha : ISS w A F) (hb : IL w B s) (hl : F.length ≤ 1048576) (hs : Short F 1048576) (hls : s.length ≤ 1048576) :
    Calls Try.prog 54 #[.slice A F.length c, .slice B s.length d] w fun e w' => e = .returned (.bool (hasL F s)) ∧ w = w' := by
  go_enter Try.func54, Try.ntmps54
  go_wp2
  go_loop [5] (fun i => ∃ k : Nat, k ≤ F.length ∧ i = .int .i64 k ∧ Hid (hasL (F.take k) s = false)) (fun i => F.length - (intOf i).toNat)
  case atStart => exact ⟨0, Nat.zero_le _, rfl, by show _ = _; simp [hasL]⟩
  case round =>
    obtain ⟨k, hk, rfl, hnot⟩ := hrel
    by_cases hlt : k < F.length
    · obtain ⟨b, off, l, B', d', rfl, hx, hc, hil⟩ := ha.at_ hlt
      have hll := hs.at_ hx
      cases hsub : subs l s
      · have H := Lib.hid (show hasL (F.take (k + 1)) s = false by rw [hasL_take hx, hnot.out, hsub]; rfl)
        have HS := Lib.hid hsub
        clear hx hnot hsub
        go_wp2_with fail
        refine (l1Subset_any _ _ _ _ _ _ _ hil hb hll hls).mono ?_
        rintro e w' ⟨he, rfl⟩
        rw [HS.out] at he
        subst he
        go_wp2
        go_round
        case rel => exact ⟨k + 1, by omega, by go_num, H.out⟩
        case measure => simp [intOf]; omega
      · have H := Lib.hid (hasL_mem hx hsub)
        have HS := Lib.hid hsub
        clear hx hnot hsub
        go_wp2_with fail
        refine (l1Subset_any _ _ _ _ _ _ _ hil hb hll hls).mono ?_
        rintro e w' ⟨he, rfl⟩
        rw [HS.out] at he
        subst he
        go_wp2
        go_ret
        exact ⟨ret_bool H.out.symm, rfl⟩
    · have hkl : k = F.length := by omega
      subst hkl
      have H := Lib.hid (show hasL F s = false by have := hnot.out; rwa [List.take_length] at this)
      clear hnot
      go_wp2
      go_ret
      exact ⟨ret_bool H.out.symm, rfl⟩

/-- The mask of the last set that was read. -/
def lastm (F : List (List Int)) : Nat → Nat
  | 0 => 0
  | k + 1 => msk (F.getD k [])
/-- The first k sets have passed the test. -/
def FS (F : List (List Int)) (k : Nat) : Prop :=
  allV (F.take k) ∧ (∀ q ∈ msks (F.take k), q ≤ lastm F k) ∧ fv (msks (F.take k)) (lastm F k) (F.drop k) = fv [] 0 F
theorem FS.zero (F : List (List Int)) : FS F 0 := ⟨by simp [allV], by simp [msks], by simp [msks, lastm]⟩
theorem drop_l {F : List (List Int)} {k : Nat} {l : List Int} (h : F[k]? = some l) : F.drop k = l :: F.drop (k + 1) := by
  have hj : k < F.length := (List.getElem?_eq_some_iff.1 h).1
  rw [List.drop_eq_getElem_cons hj]; congr 1; exact Option.some.inj ((List.getElem?_eq_getElem hj).symm.trans h)
theorem take_l {F : List (List Int)} {k : Nat} {l : List Int} (h : F[k]? = some l) : F.take (k + 1) = F.take k ++ [l] := by simp [List.take_add_one, h]
theorem FS.bad {F : List (List Int)} {k : Nat} {l : List Int} (h : FS F k) (hx : F[k]? = some l) (hb : vld l = false ∨ msk l ≤ lastm F k ∨ hasQ (msks (F.take k)) (msk l) = true) : famOk F = false := by
  have h3 := h.2.2
  rw [drop_l hx, fv] at h3
  unfold famOk
  rw [← h3]
  rcases hb with hb | hb | hb
  · simp [hb]
  · simp [show ¬ lastm F k < msk l by omega]
  · simp [hb]
theorem FS.step {F : List (List Int)} {k : Nat} {l : List Int} (h : FS F k) (hx : F[k]? = some l) (h1 : vld l = true) (h2 : lastm F k < msk l) (h3 : hasQ (msks (F.take k)) (msk l) = false) : FS F (k + 1) := by
  have hlast : lastm F (k + 1) = msk l := by simp [lastm, hx]
  have hm : msks (F.take (k + 1)) = msks (F.take k) ++ [msk l] := by rw [take_l hx]; simp [msks]
  refine ⟨?_, ?_, ?_⟩
  · rw [take_l hx]
    intro a ha
    rcases List.mem_append.1 ha with h5 | h5
    · exact h.1 a h5
    · simp at h5; subst h5; exact h1
  · rw [hm, hlast]
    intro q hq
    rcases List.mem_append.1 hq with h5 | h5
    · have := h.2.1 q h5; omega
    · simp at h5; omega
  · have h4 := h.2.2
    rw [drop_l hx, fv, h1, h3] at h4
    rw [hm, hlast, ← h4]
    simp [h2]
theorem FS.end_ {F : List (List Int)} (h : FS F F.length) : famOk F = decide ((F.length : Int) ≤ 20) := by
  have := h.2.2
  rw [List.drop_length, fv] at this
  rw [famOk, ← this, Bool.and_true]
  exact decide_eq_decide.2 (by omega)
theorem msk_pos {l : List Int} (h : vld l = true) (hl : l.length ≠ 0) : 0 < msk l :=
  all_of (P := fun l => l.length ≠ 0 → 0 < msk l) (by decide +kernel) h hl
theorem msk_nil {l : List Int} (hl : l.length = 0) : msk l = 0 := by
  obtain rfl := List.eq_nil_of_length_eq_zero hl
  rfl
theorem FS.at_ {F : List (List Int)} {k j : Nat} {l m : List Int} (h : FS F k) (hj : j < k) (hm : F[j]? = some m) (h1 : vld l = true) (h2 : lastm F k < msk l) : vld m = true ∧ subs l m = false := by
  have hmt : m ∈ F.take k := List.mem_of_getElem? (i := j) (by rw [List.getElem?_take_of_lt hj]; exact hm)
  have hv := h.1 m hmt
  refine ⟨hv, ?_⟩
  rw [subs_sub h1 hv, Bool.eq_false_iff]
  intro hs
  have := sub_le (msk_lt h1) (msk_lt hv) hs
  have := h.2.1 (msk m) (List.mem_map.2 ⟨m, hmt, rfl⟩)
  omega
theorem hasQ_take {F : List (List Int)} {j : Nat} {l m : List Int} (hm : F[j]? = some m) (hv : vld m = true) (h1 : vld l = true) : hasQ (msks (F.take (j + 1))) (msk l) = (hasQ (msks (F.take j)) (msk l) || subs m l) := by
  rw [take_l hm, subs_sub hv h1]
  simp [msks, hasQ]
theorem hasQ_more {F : List (List Int)} {j k : Nat} {s : Nat} (hj : j ≤ k) (h : hasQ (msks (F.take j)) s = true) : hasQ (msks (F.take k)) s = true := by
  obtain ⟨q, hq, hs⟩ := mem_hasQ.1 h
  refine mem_hasQ.2 ⟨q, ?_, hs⟩
  obtain ⟨a, ha, rfl⟩ := List.mem_map.1 hq
  refine List.mem_map.2 ⟨a, ?_, rfl⟩
  rw [show F.take j = (F.take k).take j by rw [List.take_take, Nat.min_eq_left hj]] at ha
  exact List.mem_of_mem_take ha

end Go.Proofs.Ytnfaihgnggmpkaa

/- The reference model's test of a quorum system, by its contract. -/
namespace Go.Proofs.Ytnfaihgnggmpkaa
open Go.RowKit

set_option maxRecDepth 100000 in
set_option maxHeartbeats 400000 in
theorem specFam_any (A : Option Addr) (c : Nat) (F : List (List Int)) (w : World) (ha : ISS w A F) (hl : F.length ≤ 1048576) (hs : Short F 1048576) :
    Calls Try.prog 37 #[.slice A F.length c] w fun e w' => e = .returned (.bool (famOk F)) ∧ Drew w w' := by
  go_enter Try.func37, Try.ntmps37
  go_wp2
  go_loopw [3] (fun i wr => ∃ k : Nat, k ≤ F.length ∧ i = .int .i64 k ∧ Hid (FS F k) ∧ Drew w wr) (fun i _ => F.length - (intOf i).toNat)
  case atStart => exact ⟨0, Nat.zero_le _, rfl, FS.zero F, Drew.refl _⟩
  case round =>
    obtain ⟨k, hk, rfl, hfs, hd⟩ := hrel
    by_cases hlt : k < F.length
    · have haw := ha.below hd.below
      obtain ⟨b, off, l, B, d, hA, hx, hc, hil⟩ := haw.at_ hlt
      have hll := hs.at_ hx
      have HX := Lib.hid hx
      clear hx
      have hki : (0 : Int) ≤ (k : Int) := by omega
      have hki2 : (k : Int) < (F.length : Int) := by omega
      have EV : ∀ n, Calls Try.prog 55 #[.slice B l.length d] (wr.drewN n) fun e w' => e = .returned (.bool (vld l)) ∧ ∃ m, w' = (wr.drewN n).drewN m :=
        fun n => specValid_drew B d l _ (hil.drew n) hll
      cases hv : vld l
      · rw [hv] at EV
        have H := Lib.hid (hfs.out.bad HX.out (.inl hv))
        subst hA
        clear hv hfs
        go_wp2
        go_quiet ((go_at_call 55; exact Calls.quiet_of (EV _)))
        go_wp2
        go_ret
        exact ⟨ret_bool H.out.symm, hd.more _⟩
      · rw [hv] at EV
        have HV := Lib.hid hv
        clear hv
        by_cases h0 : l.length = 0
        · have H := Lib.hid (hfs.out.bad HX.out (.inr (.inl (by rw [msk_nil h0]; exact Nat.zero_le _))))
          have h0b : ((l.length : Int) == 0) = true := by simp [h0]
          subst hA
          clear hfs h0
          go_wp2
          go_quiet ((go_at_call 55; exact Calls.quiet_of (EV _)))
          go_wp2
          go_ret
          exact ⟨ret_bool H.out.symm, hd.more _⟩
        · have h0b : ((l.length : Int) == 0) = false := beq_eq_false_iff_ne.2 (by omega)
          have HP := Lib.hid (msk_pos HV.out h0)
          clear h0
          have EM : ∀ n, Calls Try.prog 56 #[.slice B l.length d] (wr.drewN n) fun e w' => e = .returned (.int .i64 (msk l)) ∧ wr.drewN n = w' :=
            fun n => l1Mask_any B d l _ (hil.drew n) HV.out
          have hml := msk_lt HV.out
          rcases Nat.eq_zero_or_pos k with hk0 | hk0
          · have hkd : decide (0 < k) = false := by simp; omega
            have HK := Lib.hid hk0
            subst hA
            have HF := Lib.hid (show FS F (k + 1) by
              have := HK.out
              subst this
              exact hfs.out.step HX.out HV.out HP.out (by simp [msks, hasQ]))
            clear hk0 hfs
            go_wp2
            go_quiet ((go_at_call 55; exact Calls.quiet_of (EV _)))
            go_wp2
            go_loopw [4] (fun i wq => i = .int .i64 0 ∧ wq = wr.drewN nq) (fun _ _ => 0)
            case atStart => exact ⟨rfl, rfl⟩
            case round =>
              obtain ⟨rfl, rfl⟩ := hrel
              have hk00 : ¬ (0 : Int) < (k : Int) := by have := HK.out; omega
              go_wp2
              go_roundw
              case rel => exact ⟨k + 1, by omega, by go_num, HF.out, hd.more _⟩
              case measure => simp [intOf]; omega
          · obtain ⟨j, rfl⟩ : ∃ j, k = j + 1 := ⟨k - 1, by omega⟩
            obtain ⟨b2, off2, m, B2, d2, hA2, hx2, hc2, hil2⟩ := haw.at_ (k := j) (by omega)
            subst hA
            obtain ⟨rfl, rfl⟩ : b = b2 ∧ off = off2 := by injection hA2 with h; injection h with h1 h2; exact ⟨h1, h2⟩
            have hvm : vld m = true := hfs.out.1 m (List.mem_of_getElem? (i := j) (by rw [List.getElem?_take_of_lt (by omega)]; exact hx2))
            have EM2 : ∀ n, Calls Try.prog 56 #[.slice B2 m.length d2] (wr.drewN n) fun e w' => e = .returned (.int .i64 (msk m)) ∧ wr.drewN n = w' :=
              fun n => l1Mask_any B2 d2 m _ (hil2.drew n) hvm
            have HLM := Lib.hid (show lastm F (j + 1) = msk m by simp [lastm, hx2])
            have hmm := msk_lt hvm
            clear hA2 hx2 hvm
            have hj0 : (0 : Int) ≤ (j : Int) := by omega
            have hj1 : (j : Int) < (F.length : Int) := by omega
            by_cases hlm : msk m < msk l
            · go_wp2
              go_quiet (first
                | (go_at_call 55; exact Calls.quiet_of (EV _))
                | (go_at_call_of 56 B2; exact quiet_same (EM2 _))
                | (go_at_call_of 56 B; exact quiet_same (EM _))
                | fail)
              go_wp2
              have HLT := Lib.hid (show lastm F (j + 1) < msk l by rw [HLM.out]; exact hlm)
              have hbl := hd.more nq
              generalize wr.drewN nq = ws at *
              clear EV EM EM2 hil hil2 hc hc2 haw hd
              go_loopw [4] (fun i wq => ∃ i' : Nat, i' ≤ j + 1 ∧ i = .int .i64 i' ∧ Hid (hasQ (msks (F.take i')) (msk l) = false) ∧ Drew w wq) (fun i _ => j + 1 - (intOf i).toNat)
              case atStart => exact ⟨0, Nat.zero_le _, rfl, by show _ = _; simp [msks, hasQ], hbl⟩
              case round =>
                clear hbl
                obtain ⟨i, hi, rfl, hq, hdq⟩ := hrel
                by_cases hlt2 : i < j + 1
                · have haq := ha.below hdq.below
                  obtain ⟨b3, off3, l3, B, d, hA3, hx3, hc3, hil3⟩ := haq.at_ hlt
                  obtain ⟨b4, off4, m4, B4, d4, hA4, hx4, hc4, hil4⟩ := haq.at_ (k := i) (by omega)
                  obtain ⟨rfl, rfl⟩ : b = b3 ∧ off = off3 := by injection hA3 with h; injection h with h1 h2; exact ⟨h1, h2⟩
                  obtain ⟨rfl, rfl⟩ : b = b4 ∧ off = off4 := by injection hA4 with h; injection h with h1 h2; exact ⟨h1, h2⟩
                  obtain rfl : l = l3 := by have := HX.out; rw [this] at hx3; injection hx3
                  have hl4 := hs.at_ hx4
                  have HM := Lib.hid (hfs.out.at_ hlt2 hx4 HV.out HLT.out)
                  have HX4 := Lib.hid hx4
                  clear hA3 hA4 hx3 hx4 haq
                  have hi0 : (0 : Int) ≤ (i : Int) := by omega
                  have hi1 : (i : Int) < (F.length : Int) := by omega
                  have ES1 : ∀ n, Calls Try.prog 57 #[.slice B4 m4.length d4, .slice B l.length d] (wr.drewN n) fun e w' => e = .returned (.bool (subs m4 l)) ∧ wr.drewN n = w' :=
                    fun n => l1Subset_any _ _ _ _ _ _ _ (hil4.drew n) (hil3.drew n) hl4 hll
                  have ES2 : ∀ n, Calls Try.prog 57 #[.slice B l.length d, .slice B4 m4.length d4] (wr.drewN n) fun e w' => e = .returned (.bool (subs l m4)) ∧ wr.drewN n = w' :=
                    fun n => l1Subset_any _ _ _ _ _ _ _ (hil3.drew n) (hil4.drew n) hll hl4
                  rw [HM.out.2] at ES2
                  cases hsub : subs m4 l
                  · rw [hsub] at ES1
                    have HQ := Lib.hid (show hasQ (msks (F.take (i + 1))) (msk l) = false by rw [hasQ_take HX4.out HM.out.1 HV.out, hq.out, hsub]; rfl)
                    clear hsub hq
                    go_wp2
                    go_quiet (first
                      | (go_at_call_of 57 #[Value.slice B4 m4.length d4, Value.slice B l.length d]; exact quiet_same (ES1 _))
                      | (go_at_call_of 57 #[Value.slice B l.length d, Value.slice B4 m4.length d4]; exact quiet_same (ES2 _))
                      | fail)
                    go_wp2
                    go_roundw
                    case rel => exact ⟨i + 1, by omega, by go_num, HQ.out, hdq.more _⟩
                    case measure => simp [intOf]; omega
                  · rw [hsub] at ES1
                    have H := Lib.hid (hfs.out.bad HX.out (.inr (.inr (hasQ_more (j := i + 1) (by omega) (by rw [hasQ_take HX4.out HM.out.1 HV.out, hsub]; simp)))))
                    clear hsub hq
                    go_wp2
                    go_quiet (first
                      | (go_at_call_of 57 #[Value.slice B4 m4.length d4, Value.slice B l.length d]; exact quiet_same (ES1 _))
                      | fail)
                    go_wp2
                    go_ret
                    exact ⟨ret_bool H.out.symm, hdq.more _⟩
                · have hij : i = j + 1 := by omega
                  subst hij
                  have HF := Lib.hid (hfs.out.step HX.out HV.out HLT.out hq.out)
                  clear hq hfs
                  go_wp2
                  go_roundw
                  case rel => exact ⟨j + 1 + 1, by omega, by go_num, HF.out, hdq⟩
                  case measure => simp [intOf]; omega
            · have H := Lib.hid (hfs.out.bad HX.out (.inr (.inl (by rw [HLM.out]; omega))))
              clear hfs
              go_wp2
              go_quiet (first
                | (go_at_call 55; exact Calls.quiet_of (EV _))
                | (go_at_call_of 56 B2; exact quiet_same (EM2 _))
                | (go_at_call_of 56 B; exact quiet_same (EM _))
                | fail)
              go_wp2
              go_ret
              exact ⟨ret_bool H.out.symm, hd.more _⟩
    · have hkl : k = F.length := by omega
      subst hkl
      have H := Lib.hid hfs.out.end_
      clear hfs
      go_wp2
      go_ret
      exact ⟨ret_bool H.out.symm, hd⟩
end Go.Proofs.Ytnfaihgnggmpkaa

/- The program's quorum systems: reading, testing, and asking for a quorum, by their contracts. -/
namespace Go.Proofs.Ytnfaihgnggmpkaa
open Go.RowKit

/-- Masks as bytes. -/
def ubs (K : List Nat) : List Value := K.map fun (m : Nat) => Value.int .u8 (m : Int)
theorem ubs_len (K : List Nat) : (ubs K).length = K.length := by simp [ubs]
theorem ubs_snoc (K : List Nat) (m : Nat) : ubs (K ++ [m]) = ubs K ++ [.int .u8 (m : Int)] := by simp [ubs]
theorem bits_info : (Try.prog.info? 62).map (fun i => (i.zero, i.size, i.bytes)) = some (some (.int .u8 0), 1, 1) := by kernel_rfl

/-- The slice at A reads as the masks K. -/
def IB (w : World) (A : Option Addr) (K : List Nat) : Prop :=
  K = [] ∨ ∃ b off, A = some ⟨b, off, none⟩ ∧ b < w.heap.size ∧ ∀ (j : Nat) m, K[j]? = some m → w.cell? ⟨b, off + j, none⟩ = some (.int .u8 (m : Int))
theorem IB.at_ {w : World} {A : Option Addr} {K : List Nat} {k : Nat} (h : IB w A K) (hk : k < K.length) :
    ∃ b off m, A = some ⟨b, off, none⟩ ∧ K[k]? = some m ∧ w.cell? ⟨b, off + k, none⟩ = some (.int .u8 (m : Int)) := by
  rcases h with rfl | ⟨b, off, rfl, _, hc⟩
  · simp at hk
  · exact ⟨b, off, K[k], rfl, List.getElem?_eq_getElem hk, hc k _ (List.getElem?_eq_getElem hk)⟩
theorem IB.below {w w' : World} {A : Option Addr} {K : List Nat} (h : IB w A K) (hb : Below w.heap.size w w') : IB w' A K := by
  rcases h with rfl | ⟨b, off, rfl, hlt, hc⟩
  · exact .inl rfl
  · exact .inr ⟨b, off, rfl, Nat.lt_of_lt_of_le hlt hb.size, fun j x hx => (hb.cell (p := ⟨b, off + j, none⟩) hlt).trans (hc j x hx)⟩
theorem IB.of_own {w : World} {base : Nat} {e : TypeId} {A : Option Addr} {n c : Nat} {K : List Nat} (h : w.ownsRow base e 1 (.slice A n c) n (ubs K)) : IB w A K ∧ n = K.length := by
  have hn : n = K.length := by have := h.1; rw [ubs_len] at this; omega
  refine ⟨?_, hn⟩
  rcases h.2 with ⟨_, h0⟩ | ⟨g, cap, cur, hv, hb, hg, _, _, _, ht⟩
  · left; exact List.eq_nil_of_length_eq_zero (by omega)
  · right
    injection hv with hA
    subst hA
    refine ⟨g, 0, rfl, (Array.getElem?_eq_some_iff.1 hg).1, fun j x hx => ?_⟩
    have := h.cells (g := g) rfl j (.int .u8 x) (by simp [ubs, hx])
    rw [Addr.add_lit] at this
    exact this
theorem hasQ_step {K : List Nat} {k m s : Nat} (h : K[k]? = some m) : hasQ (K.take (k + 1)) s = (hasQ (K.take k) s || sub m s) := by
  simp [hasQ, List.take_add_one, h]

set_option maxRecDepth 100000 in
set_option maxHeartbeats 800000 in
theorem hasQuorum_any (A : Option Addr) (c : Nat) (K : List Nat) (s : Nat) (w : World) (ha : IB w A K) (hl : K.length ≤ 1048576) (hK : Msk K) (hs : s < 64) :
    Calls Try.prog 43 #[.slice A K.length c, .int .u8 s] w fun e w' => e = .returned (.bool (hasQ K s)) ∧ w = w' := by
  go_enter Try.func43, Try.ntmps43
  go_wp2
  go_loop [9] (fun i => ∃ k : Nat, k ≤ K.length ∧ i = .int .i64 k ∧ Hid (hasQ (K.take k) s = false)) (fun i => K.length - (intOf i).toNat)
  case atStart => exact ⟨0, Nat.zero_le _, rfl, by show _ = _; simp [hasQ]⟩
  case round =>
    obtain ⟨k, hk, rfl, hnot⟩ := hrel
    by_cases hlt : k < K.length
    · obtain ⟨b, off, m, rfl, hx, hc⟩ := ha.at_ hlt
      have hm := hK m (List.mem_of_getElem? hx)
      cases hsub : sub m s
      · have H := Lib.hid (show hasQ (K.take (k + 1)) s = false by rw [hasQ_step hx, hnot.out, hsub]; rfl)
        have HS := Lib.hid (show (andNot m s == 0) = false from hsub)
        clear hx hnot hsub
        go_wp2_with fail
        refine (subsetOf_bits _ _ _ hm hs).mono ?_
        rintro e w' ⟨he, rfl⟩
        rw [HS.out] at he
        subst he
        go_wp2
        go_round
        case rel => exact ⟨k + 1, by omega, by go_num, H.out⟩
        case measure => simp [intOf]; omega
      · have H := Lib.hid (show hasQ K s = true from mem_hasQ.2 ⟨m, List.mem_of_getElem? hx, hsub⟩)
        have HS := Lib.hid (show (andNot m s == 0) = true from hsub)
        clear hx hnot hsub
        go_wp2_with fail
        refine (subsetOf_bits _ _ _ hm hs).mono ?_
        rintro e w' ⟨he, rfl⟩
        rw [HS.out] at he
        subst he
        go_wp2
        go_ret
        exact ⟨ret_bool H.out.symm, rfl⟩
    · have hkl : k = K.length := by omega
      subst hkl
      have H := Lib.hid (show hasQ K s = false by have := hnot.out; rwa [List.take_length] at this)
      clear hnot
      go_wp2
      go_ret
      exact ⟨ret_bool H.out.symm, rfl⟩

theorem app_gen {w wr w1 : World} {base : Nat} {e : TypeId} {v : Value} {o : Obj} {n : Nat} {xs : List Value} (hown : wr.ownsRow base e 1 v n xs) (hbase : w.heap.size ≤ base) (hb : Below w.heap.size w wr) (hg : (wr.alloc o).grownBy w1 v.ownBlock) : Below w.heap.size w w1 :=
  (hb.alloc hb.size o).grown hg (by have := hb.size; simp; omega) (fun k hk => Nat.le_trans hbase (hown.lt k hk).1)
theorem msks_take {F : List (List Int)} {k : Nat} {l : List Int} (h : F[k]? = some l) : msks (F.take (k + 1)) = msks (F.take k) ++ [msk l] := by rw [take_l h]; simp [msks]
theorem lastm_lt {F : List (List Int)} {k : Nat} (h : FS F k) (hk : k ≤ F.length) : lastm F k < 64 := by
  cases k with
  | zero => simp [lastm]
  | succ k =>
    have hx : F[k]? = some F[k] := List.getElem?_eq_getElem (by omega)
    have : lastm F (k + 1) = msk F[k] := by simp [lastm, hx]
    rw [this]
    exact msk_lt (h.1 _ (List.mem_of_getElem? (i := k) (by rw [List.getElem?_take_of_lt (by omega)]; exact hx)))

/-- What the reading of a quorum system hands back. -/
def FamOf (w : World) (F : List (List Int)) (e : Ending) (w' : World) : Prop :=
  Below w.heap.size w w' ∧ ((famOk F = false ∧ e = .returned (.tuple #[.slice none 0 0, .bool false])) ∨
    (famOk F = true ∧ ∃ A c, e = .returned (.tuple #[.slice A (msks F).length c, .bool true]) ∧ w'.ownsRow w.heap.size 62 1 (.slice A (msks F).length c) (msks F).length (ubs (msks F))))
theorem u8_le (a b : Nat) : ((a : Int) ≤ (b : Int)) ↔ a ≤ b := by omega

set_option maxRecDepth 100000 in
set_option maxHeartbeats 600000 in
theorem familyOf_any (A : Option Addr) (c : Nat) (F : List (List Int)) (w : World) (ha : ISS w A F) (hl : F.length ≤ 1048576) (hs : Short F 1048576) :
    Calls Try.prog 22 #[.slice A F.length c] w (FamOf w F) := by
  obtain ⟨i0, hi0, hz0, hz1, hz2⟩ := info_parts bits_info
  by_cases h20 : F.length ≤ 20
  · go_enter Try.func22, Try.ntmps22
    go_wp2
    go_loopw [4, 5, 15] (fun v q i wr => ∃ k : Nat, k ≤ F.length ∧ i = .int .i64 k ∧ q = .int .u8 (lastm F k : Nat) ∧ Hid (FS F k) ∧ wr.ownsRow w.heap.size 62 1 v (msks (F.take k)).length (ubs (msks (F.take k))) ∧ Below w.heap.size w wr) (fun _ _ i _ => F.length - (intOf i).toNat)
    case atStart => exact ⟨0, Nat.zero_le _, rfl, rfl, FS.zero F, (by simpa [msks, ubs] using World.ownsRow_nil _ _ _ _), Below.refl _ _⟩
    case round =>
      obtain ⟨k, hk, rfl, rfl, hfs, hown, hbel⟩ := hrel
      have hlast := lastm_lt hfs.out hk
      by_cases hlt : k < F.length
      · obtain ⟨b, off, l, B, d, rfl, hx, hc, hil⟩ := (ha.below hbel).at_ hlt
        have hll := hs.at_ hx
        have HX := Lib.hid hx
        clear hx
        cases hv : vld l
        · have H := Lib.hid (hfs.out.bad HX.out (.inl hv))
          have HV := Lib.hid hv
          clear hv hfs hown
          go_wp2_with fail
          refine (bitsOf_no _ _ _ _ hil HV.out hll).mono ?_
          rintro e w' ⟨rfl, rfl⟩
          go_wp2
          go_ret2
          exact ⟨hbel, .inl ⟨H.out, rfl⟩⟩
        · have HV := Lib.hid hv
          have hm := msk_lt hv
          clear hv
          by_cases hle : msk l ≤ lastm F k
          · have H := Lib.hid (hfs.out.bad HX.out (.inr (.inl hle)))
            have hle' : ((msk l : Nat) : Int) ≤ ((lastm F k : Nat) : Int) := by omega
            clear hfs hown hle
            go_wp2_with fail
            refine (bitsOf_yes _ _ _ _ hil HV.out).mono ?_
            rintro e w' ⟨rfl, rfl⟩
            go_wp2
            go_ret2
            exact ⟨hbel, .inl ⟨H.out, rfl⟩⟩
          · have hle' : ¬ ((msk l : Nat) : Int) ≤ ((lastm F k : Nat) : Int) := by omega
            have hKm : Msk (msks (F.take k)) := msks_msk hfs.out.1
            have hKl : (msks (F.take k)).length ≤ 20 := by simp [msks]; omega
            obtain ⟨A', c', rfl⟩ := own_slice hown
            have hib := (IB.of_own hown).1
            have HLE := Lib.hid (show lastm F k < msk l by omega)
            clear hle
            cases hq : hasQ (msks (F.take k)) (msk l)
            · have HF := Lib.hid (hfs.out.step HX.out HV.out HLE.out hq)
              have HQ := Lib.hid hq
              have HM := Lib.hid (msks_take HX.out)
              have HLL := Lib.hid (show lastm F (k + 1) = msk l by have := HX.out; simp [lastm, this])
              clear hq hfs
              go_wp2_with fail
              refine (bitsOf_yes _ _ _ _ hil HV.out).mono ?_
              rintro e w' ⟨rfl, rfl⟩
              go_wp2_with fail
              refine (hasQuorum_any _ _ _ _ _ hib (by omega) hKm hm).mono ?_
              rintro e w' ⟨he, rfl⟩
              rw [HQ.out] at he
              subst he
              go_wp2_with (at_builtin; refine wpList_append_own _ rfl (.tmp 36) (.tmp 38) 42 rfl w.heap.size 62 i0 (.int .u8 0) 1 1 Try.underlying42 hi0 hz0 hz1 hz2 rfl (by decide) _ _ _ rfl (hown.alloc _) ⟨wr.heap.size, 0, none⟩ 1 1 [.int .u8 (msk l : Nat)] rfl rfl (cell_one_new _ _ _) (ints_oneCell .u8 [((msk l : Nat) : Int)]) (by unfold maxLen; omega) (by omega) (by have := hbel.size; simp; omega) ?_)
              intro v' w1 hown' hgrow _
              have R := Lib.hid (show w1.ownsRow w.heap.size 62 1 v' (msks (F.take (k + 1))).length (ubs (msks (F.take (k + 1)))) ∧ Below w.heap.size w w1 by
                refine ⟨?_, app_gen hown (Nat.le_refl _) hbel hgrow⟩
                rw [HM.out, ubs_snoc]
                simpa using hown')
              clear hown hown' hgrow hbel hib
              go_wp2
              go_roundw
              case rel => exact ⟨k + 1, by omega, by go_num, by rw [HLL.out], HF.out, R.out.1, R.out.2⟩
              case measure => simp [intOf]; omega
            · have H := Lib.hid (hfs.out.bad HX.out (.inr (.inr hq)))
              have HQ := Lib.hid hq
              clear hq hfs
              go_wp2_with fail
              refine (bitsOf_yes _ _ _ _ hil HV.out).mono ?_
              rintro e w' ⟨rfl, rfl⟩
              go_wp2_with fail
              refine (hasQuorum_any _ _ _ _ _ hib (by omega) hKm hm).mono ?_
              rintro e w' ⟨he, rfl⟩
              rw [HQ.out] at he
              subst he
              go_wp2
              go_ret2
              exact ⟨hbel, .inl ⟨H.out, rfl⟩⟩
      · have hkl : k = F.length := by omega
        subst hkl
        have H := Lib.hid (show famOk F = true by rw [hfs.out.end_]; simp; omega)
        rw [List.take_length] at hown
        obtain ⟨A', c', rfl⟩ := own_slice hown
        have HO := Lib.hid hown
        clear hfs hown
        go_wp2
        go_ret2
        exact ⟨hbel, .inr ⟨H.out, A', c', rfl, HO.out⟩⟩
  · have H := Lib.hid (show famOk F = false by simp [famOk, h20])
    go_enter Try.func22, Try.ntmps22
    go_wp2
    go_ret2
    exact ⟨Below.refl _ _, .inl ⟨H.out, rfl⟩⟩

def hasQR (F : List (List Int)) (s : List Int) : Bool := famOk F && vld s && hasL F s

end Go.Proofs.Ytnfaihgnggmpkaa

/- The program's heap of sets: its methods, by their contracts. -/
namespace Go.Proofs.Ytnfaihgnggmpkaa
open Go.RowKit

/-- The heap at block p holds the masks a; they lie at the head of block g. -/
def HG (w : World) (p g c : Nat) (a : List Nat) : Prop :=
  w.heap[p]? = some (.cells #[.slice (some ⟨g, 0, none⟩) a.length c] 77 (0, 0)) ∧
  w.ownsRow 0 62 1 (.slice (some ⟨g, 0, none⟩) a.length c) a.length (ubs a)
section
variable {w w' : World} {p g c : Nat} {a : List Nat}
theorem HG.c0 (h : HG w p g c a) : w.cell? ⟨p, 0, none⟩ = some (.slice (some ⟨g, 0, none⟩) a.length c) := by rw [cell_of_row w p 0 _ _ (0, 0) h.1]; rfl
theorem HG.f0 (h : HG w p g c a) : w.frozen? ⟨p, 0, none⟩ = false := frozen_of_row w p 0 _ _ h.1
theorem HG.at_ (h : HG w p g c a) {i : Nat} (hi : i < a.length) : w.cell? ⟨g, i, none⟩ = some (.int .u8 ((a.getD i 0 : Nat) : Int)) := by
  rw [h.2.cellAt i (by omega)]
  simp [ubs, hi]
theorem HG.fz (h : HG w p g c a) (i : Nat) : w.frozen? ⟨g, i, none⟩ = false := h.2.frozenAt i
theorem HG.lt (h : HG w p g c a) : p < w.heap.size ∧ g < w.heap.size := ⟨(Array.getElem?_eq_some_iff.1 h.1).1, (h.2.lt g rfl).2⟩
theorem HG.ne (h : HG w p g c a) : p ≠ g := by
  rintro rfl
  obtain ⟨cur, h2⟩ := own_cells h.2 p rfl
  have h1 := h.1
  rw [h2] at h1
  injection h1 with h1
  injection h1 with _ h1
  exact absurd h1 (by decide)
theorem HG.kept (h : HG w p g c a) (hp : w'.heap[p]? = w.heap[p]?) (hg : w'.heap[g]? = w.heap[g]?) : HG w' p g c a :=
  ⟨hp.trans h.1, own_at h.2 fun k hk => by cases hk; exact hg⟩
theorem HG.drew (h : HG w p g c a) (n : Nat) : HG (w.drewN n) p g c a := h
theorem HG.drw (h : HG w p g c a) (hd : Drew w w') : HG w' p g c a := by obtain ⟨n, rfl⟩ := hd; exact h
theorem ubs_set (a : List Nat) (i m : Nat) : (ubs a).set i (.int .u8 (m : Int)) = ubs (a.set i m) := by simp [ubs, List.map_set]
theorem HG.stored (h : HG w p g c a) (i m : Nat) : HG (w.setCell ⟨g, i, none⟩ (.int .u8 (m : Int))) p g c (a.set i m) := by
  have hne := h.ne
  refine ⟨?_, ?_⟩
  · rw [List.length_set]
    exact (Below.heap_setCell w ⟨g, i, none⟩ _ p hne).trans h.1
  · have := (h.2.stored i (.int .u8 (m : Int))).1
    rw [ubs_set] at this
    rw [List.length_set]
    exact this
end
/-- Only block p and block g have been written. -/
structure Two (p g : Nat) (w w' : World) : Prop where
  os : w'.os = w.os
  tape : w'.tape = w.tape
  output : w'.output = w.output
  size : w.heap.size = w'.heap.size
  block : ∀ i, i ≠ p → i ≠ g → w'.heap[i]? = w.heap[i]?
theorem Two.refl (p g : Nat) (w : World) : Two p g w w := ⟨rfl, rfl, rfl, rfl, fun _ _ _ => rfl⟩
theorem Two.trans {p g : Nat} {a b c : World} (h : Two p g a b) (k : Two p g b c) : Two p g a c :=
  ⟨k.os.trans h.os, k.tape.trans h.tape, k.output.trans h.output, h.size.trans k.size, fun i h1 h2 => (k.block i h1 h2).trans (h.block i h1 h2)⟩
theorem Two.drew {p g : Nat} {a b : World} (h : Two p g a b) (n : Nat) : Two p g a (b.drewN n) := ⟨h.os, h.tape, h.output, h.size, h.block⟩
theorem Two.drw {p g : Nat} {a b c : World} (h : Two p g a b) (hd : Drew b c) : Two p g a c := by obtain ⟨n, rfl⟩ := hd; exact h.drew n
theorem Two.setG {p g : Nat} {a b : World} (h : Two p g a b) (i : Nat) (v : Value) : Two p g a (b.setCell ⟨g, i, none⟩ v) :=
  ⟨h.os, h.tape, h.output, by rw [h.size]; simp [World.setCell], fun k h1 h2 => (Below.heap_setCell b ⟨g, i, none⟩ v k h2).trans (h.block k h1 h2)⟩
theorem Two.setP {p g : Nat} {a b : World} (h : Two p g a b) (i : Nat) (v : Value) : Two p g a (b.setCell ⟨p, i, none⟩ v) :=
  ⟨h.os, h.tape, h.output, by rw [h.size]; simp [World.setCell], fun k h1 h2 => (Below.heap_setCell b ⟨p, i, none⟩ v k h1).trans (h.block k h1 h2)⟩

set_option maxRecDepth 100000 in
set_option maxHeartbeats 400000 in
theorem heapLen_any (p g c : Nat) (a : List Nat) (w : World) (h : HG w p g c a) :
    Calls Try.prog 72 #[.pointer (some ⟨p, 0, none⟩)] w fun e w' => e = .returned (.int .i64 a.length) ∧ w = w' := by
  have c0 := h.c0
  go_enter Try.func72, Try.ntmps72
  go_wp2
  go_ret
  exact ⟨rfl, rfl⟩

set_option maxRecDepth 100000 in
set_option maxHeartbeats 400000 in
theorem heapLess_any (p g c i j : Nat) (a : List Nat) (w : World) (h : HG w p g c a) (hi : i < a.length) (hj : j < a.length) :
    Calls Try.prog 96 #[.pointer (some ⟨p, 0, none⟩), .int .i64 i, .int .i64 j] w fun e w' => e = .returned (.bool (decide (a.getD i 0 < a.getD j 0))) ∧ ∃ n, w' = w.drewN n := by
  have c0 := h.c0
  have ci := h.at_ hi
  have cj := h.at_ hj
  have hi0 : (0 : Int) ≤ (i : Int) := by omega
  have hi1 : (i : Int) < (a.length : Int) := by omega
  have hj0 : (0 : Int) ≤ (j : Int) := by omega
  have hj1 : (j : Int) < (a.length : Int) := by omega
  generalize a.getD i 0 = x at *
  generalize a.getD j 0 = y at *
  clear h
  go_enter Try.func96, Try.ntmps96
  go_wp2
  go_quiet (fail)
  go_wp2
  go_ret
  exact ⟨rfl, _, rfl⟩

set_option maxRecDepth 100000 in
set_option maxHeartbeats 400000 in
theorem heapSwap_ne (p g c i j : Nat) (a : List Nat) (w : World) (h : HG w p g c a) (hi : i < a.length) (hj : j < a.length) (hij : i ≠ j) :
    Calls Try.prog 99 #[.pointer (some ⟨p, 0, none⟩), .int .i64 i, .int .i64 j] w fun e w' => e = .returned (.tuple #[]) ∧ HG w' p g c (swp a i j) ∧ Two p g w w' := by
  have c0 := h.c0
  have f0 := h.f0
  have ci := h.at_ hi
  have cj := h.at_ hj
  have fi := h.fz i
  have fj := h.fz j
  have hi0 : (0 : Int) ≤ (i : Int) := by omega
  have hi1 : (i : Int) < (a.length : Int) := by omega
  have hj0 : (0 : Int) ≤ (j : Int) := by omega
  have hj1 : (j : Int) < (a.length : Int) := by omega
  have HH := Lib.hid h
  have HS : Hid (swp a i j = (a.set i (a.getD j 0)).set j (a.getD i 0)) := Lib.hid rfl
  clear h
  generalize a.getD i 0 = x at *
  generalize a.getD j 0 = y at *
  go_enter Try.func99, Try.ntmps99
  go_region
  go_end0
  refine ⟨rfl, ?_, (((Two.refl p g w).setG i _).setG j _).drew 1⟩
  rw [HS.out]
  have := ((HH.out.stored i y).stored j x).drew 1
  exact this

set_option maxRecDepth 100000 in
set_option maxHeartbeats 400000 in
theorem heapSwap_same (p g c i : Nat) (a : List Nat) (w : World) (h : HG w p g c a) (hi : i < a.length) :
    Calls Try.prog 99 #[.pointer (some ⟨p, 0, none⟩), .int .i64 i, .int .i64 i] w fun e w' => e = .returned (.tuple #[]) ∧ HG w' p g c (swp a i i) ∧ Two p g w w' := by
  have c0 := h.c0
  have f0 := h.f0
  have ci := h.at_ hi
  have fi := h.fz i
  have hi0 : (0 : Int) ≤ (i : Int) := by omega
  have hi1 : (i : Int) < (a.length : Int) := by omega
  have HH := Lib.hid h
  have HS : Hid (swp a i i = (a.set i (a.getD i 0)).set i (a.getD i 0)) := Lib.hid rfl
  clear h
  generalize a.getD i 0 = x at *
  go_enter Try.func99, Try.ntmps99
  go_region
  go_end0
  refine ⟨rfl, ?_, (((Two.refl p g w).setG i _).setG i _).drew 1⟩
  rw [HS.out]
  have := ((HH.out.stored i x).stored i x).drew 1
  exact this
theorem heapSwap_any (p g c i j : Nat) (a : List Nat) (w : World) (h : HG w p g c a) (hi : i < a.length) (hj : j < a.length) :
    Calls Try.prog 99 #[.pointer (some ⟨p, 0, none⟩), .int .i64 i, .int .i64 j] w fun e w' => e = .returned (.tuple #[]) ∧ HG w' p g c (swp a i j) ∧ Two p g w w' := by
  by_cases hij : i = j
  · subst hij; exact heapSwap_same p g c i a w h hi
  · exact heapSwap_ne p g c i j a w h hi hj hij

theorem take_ubs (a : List Nat) (n : Nat) : (ubs a).take n = ubs (a.take n) := by simp [ubs, List.map_take]
theorem HG.cut {w : World} {p g c : Nat} {a : List Nat} (h : HG w p g c a) {n : Nat} (hn : n ≤ a.length) : HG (w.setCell ⟨p, 0, none⟩ (.slice (some ⟨g, 0, none⟩) n c)) p g c (a.take n) := by
  have hne := h.ne
  have hl : (a.take n).length = n := by simp; omega
  refine ⟨?_, ?_⟩
  · rw [hl]
    exact heap_setCell_same w p 0 _ _ _ h.1
  · rw [hl, ← take_ubs]
    have h2 : (w.setCell ⟨p, 0, none⟩ (.slice (some ⟨g, 0, none⟩) n c)).ownsRow 0 62 1 (.slice (some ⟨g, 0, none⟩) a.length c) a.length (ubs a) :=
      own_at h.2 fun k hk => by cases hk; exact Below.heap_setCell w ⟨p, 0, none⟩ _ g (fun e => hne e.symm)
    refine ⟨by simp [ubs]; omega, .inr ?_⟩
    rcases h2.2 with ⟨h0, _⟩ | ⟨g', cap, cur, hv, h3, h4, h5, h6, h7, h8⟩
    · cases h0
    · injection hv with hv1 _ hv2
      injection hv1 with hv1
      injection hv1 with hv1
      subst hv1 hv2
      refine ⟨g, c, cur, rfl, h3, h4, by omega, h6, h7, ?_⟩
      rw [← h8, List.take_take]
      congr 1
      omega

set_option maxRecDepth 100000 in
set_option maxHeartbeats 400000 in
theorem heapPop_any (p g c n : Nat) (a : List Nat) (w : World) (h : HG w p g c a) (hl : a.length ≤ 1048576) (hn : a.length = n + 1) :
    Calls Try.prog 97 #[.pointer (some ⟨p, 0, none⟩)] w fun e w' => e = .returned (.iface 62 (.int .u8 ((a.getD n 0 : Nat) : Int))) ∧ HG w' p g c (a.take n) ∧ Two p g w w' := by
  have c0 := h.c0
  have f0 := h.f0
  have cn := h.at_ (i := n) (by omega)
  have hcap : a.length ≤ c := by
    rcases h.2.2 with ⟨h0, _⟩ | ⟨g', cap, cur, hv, h3, h4, h5, _⟩
    · cases h0
    · injection hv with _ _ hv2; omega
  have HC := Lib.hid (h.cut (n := n) (by omega))
  have HN := Lib.hid hn
  rw [hn] at c0 hcap
  generalize a.getD n 0 = x at *
  have hn1 : ((n : Int) + 1 - 1) = (n : Int) := by omega
  have hnb : n ≤ 1048576 := by omega
  clear h hn hl
  have hn0 : (0 : Int) ≤ (n : Int) := by omega
  have hnc : (n : Int) ≤ (c : Int) := by omega
  go_enter Try.func97, Try.ntmps97
  go_wp2
  go_ret
  exact ⟨rfl, HC.out, (Two.refl p g w).setP 0 _⟩
end Go.Proofs.Ytnfaihgnggmpkaa

/- The library's heap functions over the program's heap of sets, by their contracts. -/
namespace Go.Proofs.Ytnfaihgnggmpkaa
open Go.RowKit

theorem m_push (f : Nat) (a : Addr) (w : World) : (method (f + 1) 76 (.pointer (some a)) "Push").run Try.prog w = .ok (98, .pointer (some a)) w := by kernel_rfl
theorem m_pop (f : Nat) (a : Addr) (w : World) : (method (f + 1) 76 (.pointer (some a)) "Pop").run Try.prog w = .ok (97, .pointer (some a)) w := by kernel_rfl
theorem m_len (f : Nat) (a : Addr) (w : World) : (method (f + 1) 76 (.pointer (some a)) "Len").run Try.prog w = .ok (72, .pointer (some a)) w := by kernel_rfl
theorem m_less (f : Nat) (a : Addr) (w : World) : (method (f + 1) 76 (.pointer (some a)) "Less").run Try.prog w = .ok (96, .pointer (some a)) w := by kernel_rfl
theorem m_swap (f : Nat) (a : Addr) (w : World) : (method (f + 1) 76 (.pointer (some a)) "Swap").run Try.prog w = .ok (99, .pointer (some a)) w := by kernel_rfl

theorem ta_bits (x : Int) (w : World) : (Instr.typeAssert (.iface 62 (.int .u8 x)) 20 62 true).run Try.prog w = .ok (.tuple #[.int .u8 x, .bool true]) w := by kernel_rfl

/-- The heap at block p holds the masks a, in memory from block lo on. -/
def HS (w : World) (lo p : Nat) (a : List Nat) : Prop :=
  lo ≤ p ∧ ∃ v, w.heap[p]? = some (.cells #[v] 77 (0, 0)) ∧ w.ownsRow lo 62 1 v a.length (ubs a)
theorem HS.hg {w : World} {lo p : Nat} {a : List Nat} (h : HS w lo p a) (ha : a ≠ []) : ∃ g c, HG w p g c a ∧ lo ≤ g := by
  obtain ⟨_, v, hp, ho⟩ := h
  rcases ho.2 with ⟨_, h0⟩ | ⟨g, cap, cur, hv, hb, _⟩
  · exact absurd (List.eq_nil_of_length_eq_zero h0) ha
  · subst hv
    exact ⟨g, cap, ⟨hp, own_base ho (Nat.zero_le _)⟩, hb⟩
theorem HG.hs {w : World} {lo p g c : Nat} {a : List Nat} (h : HG w p g c a) (hp : lo ≤ p) (hg : lo ≤ g) : HS w lo p a := by
  refine ⟨hp, _, h.1, h.2.1, ?_⟩
  rcases h.2.2 with h0 | ⟨g', cap, cur, hv, hb, hr⟩
  · exact .inl h0
  · injection hv with hv1 hv2 hv3
    injection hv1 with hv1
    injection hv1 with hv1
    subst hv1 hv3
    exact .inr ⟨g, c, cur, rfl, hg, hr⟩
theorem Two.below {p g lo : Nat} {w w' : World} (h : Two p g w w') (hp : lo ≤ p) (hg : lo ≤ g) : Below lo w w' :=
  ⟨h.os, h.tape, h.output, Nat.le_of_eq h.size, fun k hk => h.block k (by omega) (by omega)⟩
theorem below_below {lo : Nat} {a b c : World} (h : Below lo a b) (k : Below lo b c) : Below lo a c := h.trans k
theorem HS.lt {w : World} {lo p : Nat} {a : List Nat} (h : HS w lo p a) : p < w.heap.size := by
  obtain ⟨_, v, hp, _⟩ := h
  exact (Array.getElem?_eq_some_iff.1 hp).1

/-- What an append to the heap's slice leaves. -/
theorem pushed {w w1 : World} {lo p s : Nat} {a : List Nat} {v v' : Value} {o : Obj} (hlo : lo ≤ p) (hp : w.heap[p]? = some (.cells #[v] 77 (0, 0)))
    (ho : w.ownsRow lo 62 1 v a.length (ubs a)) (ho' : w1.ownsRow lo 62 1 v' (a.length + 1) (ubs a ++ [.int .u8 (s : Int)])) (hg : (w.alloc o).grownBy w1 v.ownBlock) :
    w1.cell? ⟨p, 0, none⟩ = some v ∧ w1.frozen? ⟨p, 0, none⟩ = false ∧ HS (w1.setCell ⟨p, 0, none⟩ v') lo p (a ++ [s]) ∧ Below lo w (w1.setCell ⟨p, 0, none⟩ v') := by
  have hpl : p < w.heap.size := (Array.getElem?_eq_some_iff.1 hp).1
  have hne : some p ≠ v.ownBlock := by
    intro e
    obtain ⟨cur, h2⟩ := own_cells ho p e.symm
    rw [hp] at h2
    injection h2 with h2
    injection h2 with _ h2
    exact absurd h2 (by decide)
  have hp1 : w1.heap[p]? = some (.cells #[v] 77 (0, 0)) := by
    rw [hg.block p (by simp; omega) hne, Below.heap_alloc w _ p hpl, hp]
  have hne1 : ∀ k, v'.ownBlock = some k → k ≠ p := by
    rintro k hk rfl
    obtain ⟨cur, h2⟩ := own_cells ho' k hk
    rw [hp1] at h2
    injection h2 with h2
    injection h2 with _ h2
    exact absurd h2 (by decide)
  refine ⟨by rw [cell_of_row w1 p 0 _ _ (0, 0) hp1]; rfl, frozen_of_row w1 p 0 _ _ hp1, ⟨hlo, v', heap_setCell_same w1 p 0 _ _ _ hp1, ?_⟩, ?_⟩
  · have h2 := own_at (w' := w1.setCell ⟨p, 0, none⟩ v') ho' fun k hk => Below.heap_setCell w1 ⟨p, 0, none⟩ _ k (hne1 k hk)
    rw [ubs_snoc]
    simpa using h2
  · have h1 : Below lo w w1 := by
      have h0 : Below lo w (w.alloc o) := (Below.refl lo w).alloc (by omega) o
      exact h0.grown hg (by simp; omega) (fun k hk => (ho.lt k hk).1)
    exact h1.setCell hlo _

set_option maxRecDepth 100000 in
set_option maxHeartbeats 800000 in
theorem heapPush_any (lo p s : Nat) (a : List Nat) (w : World) (h : HS w lo p a) (hl : a.length ≤ 1000) :
    Calls Try.prog 98 #[.pointer (some ⟨p, 0, none⟩), .iface 62 (.int .u8 s)] w fun e w' => e = .returned (.tuple #[]) ∧ HS w' lo p (a ++ [s]) ∧ Below lo w w' := by
  obtain ⟨i0, hi0, hz0, hz1, hz2⟩ := info_parts bits_info
  have hpl := h.lt
  obtain ⟨hlo, v, hp, ho⟩ := h
  have c0 : w.cell? ⟨p, 0, none⟩ = some v := by rw [cell_of_row w p 0 _ _ (0, 0) hp]; rfl
  have HP := Lib.hid hp
  have hta := ta_bits
  clear hp
  go_enter Try.func98, Try.ntmps98
  go_wp2_with (at_builtin; refine wpList_append_own _ rfl (.tmp 15) (.tmp 17) 77 rfl lo 62 i0 (.int .u8 0) 1 1 Try.underlying77 hi0 hz0 hz1 hz2 rfl (by decide) _ _ _ rfl (ho.alloc _) ⟨w.heap.size, 0, none⟩ 1 1 [.int .u8 s] rfl rfl (cell_one_new _ _ _) (ints_oneCell .u8 [(s : Int)]) (by unfold maxLen; omega) (by omega) (by simp; omega) ?_)
  intro v' w1 hown' hgrow _
  obtain ⟨k1, k2, k3, k4⟩ := pushed hlo HP.out ho hown' hgrow
  obtain ⟨A', c', rfl⟩ := own_slice hown'
  have HK := Lib.hid (And.intro k3 k4)
  clear k3 k4 hown' hgrow ho c0
  go_wp2
  go_end0
  exact ⟨rfl, HK.out.1, HK.out.2⟩

theorem heapLess_i (p g c i j : Nat) (I J : Int) (hI : I = (i : Int)) (hJ : J = (j : Int)) (a : List Nat) (w : World) (h : HG w p g c a) (hi : i < a.length) (hj : j < a.length) :
    Calls Try.prog 96 #[.pointer (some ⟨p, 0, none⟩), .int .i64 I, .int .i64 J] w fun e w' => e = .returned (.bool (decide (a.getD i 0 < a.getD j 0))) ∧ Drew w w' := by
  subst hI hJ
  exact heapLess_any p g c i j a w h hi hj
theorem heapSwap_i (p g c i j : Nat) (I J : Int) (hI : I = (i : Int)) (hJ : J = (j : Int)) (a : List Nat) (w : World) (h : HG w p g c a) (hi : i < a.length) (hj : j < a.length) :
    Calls Try.prog 99 #[.pointer (some ⟨p, 0, none⟩), .int .i64 I, .int .i64 J] w fun e w' => e = .returned (.tuple #[]) ∧ HG w' p g c (swp a i j) ∧ Two p g w w' := by
  subst hI hJ
  exact heapSwap_any p g c i j a w h hi hj

set_option maxRecDepth 100000 in
set_option maxHeartbeats 800000 in
theorem up_any (p g c : Nat) (a : List Nat) (j : Nat) (w : World) (h : HG w p g c a) (hu : Up a j) (hl : a.length ≤ 1048576) :
    Calls Try.prog 76 #[.iface 76 (.pointer (some ⟨p, 0, none⟩)), .int .i64 j] w fun e w' => e = .returned (.tuple #[]) ∧ ∃ b, HG w' p g c b ∧ Sift a b a.length ∧ HeapN b b.length ∧ Two p g w w' := by
  have hm1 := m_less
  have hm2 := m_swap
  have HU := Lib.hid hu
  clear hu
  go_enter Try.func76, Try.ntmps76
  go_wp2
  go_loopw [1] (fun q wr => ∃ (i : Nat) (b : List Nat), q = .int .i64 i ∧ HG wr p g c b ∧ b.length = a.length ∧ Hid (Up b i ∧ Sift a b a.length) ∧ Two p g w wr) (fun q _ => (intOf q).toNat)
  case atStart => exact ⟨j, a, rfl, h, rfl, ⟨HU.out, Sift.refl _ _⟩, Two.refl _ _ _⟩
  case round =>
    clear h
    obtain ⟨i, b, rfl, hb, hbl, hub, htw⟩ := hrel
    rcases Nat.eq_zero_or_pos i with h0 | h0
    · subst h0
      have HR := Lib.hid (And.intro hub.out.2 (hub.out.1.root rfl))
      clear hub
      go_wp2
      go_end0
      exact ⟨rfl, b, hb, HR.out.1, HR.out.2, htw⟩
    · obtain ⟨m, rfl⟩ : ∃ m, i = m + 1 := ⟨i - 1, by omega⟩
      have hmm : m + 1 < a.length := by have := hub.out.1.1; omega
      obtain ⟨q, hqm⟩ : ∃ q : Nat, q = m / 2 := ⟨_, rfl⟩
      have hq : (m : Int) / 2 = (q : Int) := by omega
      have hqq : (m + 1 - 1) / 2 = q := by omega
      have hne : ((q : Int) == (m : Int) + 1) = false := beq_eq_false_iff_ne.2 (by omega)
      have hql : q < b.length := by omega
      have hml : m + 1 < b.length := by omega
      have HQ := Lib.hid hqq
      have hqlt : q < m + 1 := by omega
      clear hqq hqm
      by_cases hlt : b.getD (m + 1) 0 < b.getD q 0
      · have HL := Lib.hid hlt
        clear hlt
        go_wp2_with fail
        refine (heapLess_i p g c (m + 1) q _ _ (by omega) rfl b _ hb hml hql).mono ?_
        rintro e w1 ⟨he, hd1⟩
        rw [decide_eq_true HL.out] at he
        subst he
        have hb1 := hb.drw hd1
        have htw1 := htw.drw hd1
        clear hd1 hb htw
        go_wp2_with fail
        refine (heapSwap_i p g c q (m + 1) _ _ rfl (by omega) b _ hb1 hql hml).mono ?_
        rintro e w2 ⟨rfl, hb2, htw2⟩
        have htw3 := htw1.trans htw2
        have HR := Lib.hid (show Up (swp b q (m + 1)) q ∧ Sift a (swp b q (m + 1)) a.length by
          have h1 := hub.out.1.step (by omega) (by rw [HQ.out]; exact HL.out)
          rw [HQ.out] at h1
          exact ⟨h1, hub.out.2.swap (Nat.le_refl _) (by omega) (by omega)⟩)
        have hsl : (swp b q (m + 1)).length = a.length := by rw [swp_len]; exact hbl
        clear hb1 htw1 htw2 hub
        go_wp2
        go_roundw
        case rel => exact ⟨q, _, rfl, hb2, hsl, HR.out, htw3⟩
        case measure => simp [intOf]; omega
      · have HL := Lib.hid hlt
        clear hlt
        go_wp2_with fail
        refine (heapLess_i p g c (m + 1) q _ _ (by omega) rfl b _ hb hml hql).mono ?_
        rintro e w1 ⟨he, hd1⟩
        rw [decide_eq_false HL.out] at he
        subst he
        have hb1 := hb.drw hd1
        have htw1 := htw.drw hd1
        have HR := Lib.hid (And.intro hub.out.2 (hub.out.1.stop (by rw [HQ.out]; have := HL.out; omega)))
        clear hd1 hb htw hub
        go_wp2
        go_end0
        exact ⟨rfl, b, hb1, HR.out.1, HR.out.2, htw1⟩

set_option maxRecDepth 100000 in
set_option maxHeartbeats 1600000 in
theorem down_any (p g c n : Nat) (a : List Nat) (w : World) (h : HG w p g c a) (hu : Dn a n 0) (hl : a.length ≤ 1048576) :
    Calls Try.prog 77 #[.iface 76 (.pointer (some ⟨p, 0, none⟩)), .int .i64 0, .int .i64 n] w fun e w' => (∃ r, e = .returned (.bool r)) ∧ ∃ b, HG w' p g c b ∧ Sift a b n ∧ HeapN b n ∧ Two p g w w' := by
  have hm1 := m_less
  have hm2 := m_swap
  have hnl : n ≤ a.length := hu.1
  have HU := Lib.hid hu
  clear hu
  go_enter Try.func77, Try.ntmps77
  go_wp2
  go_loopw [7] (fun q wr => ∃ (i : Nat) (b : List Nat), q = .int .i64 i ∧ i ≤ n ∧ HG wr p g c b ∧ b.length = a.length ∧ Hid (Dn b n i ∧ Sift a b n) ∧ Two p g w wr) (fun q _ => n - (intOf q).toNat)
  case atStart => exact ⟨0, a, rfl, Nat.zero_le _, h, rfl, ⟨HU.out, Sift.refl _ _⟩, Two.refl _ _ _⟩
  case round =>
    clear h
    obtain ⟨i, b, rfl, hin, hb, hbl, hdb, htw⟩ := hrel
    by_cases h1 : 2 * i + 1 < n
    · have hge : ¬ (n : Int) ≤ 2 * (i : Int) + 1 := by omega
      have hd1 : decide ((n : Int) ≤ 2 * (i : Int) + 1) = false := by simp; omega
      have hneg : decide (2 * (i : Int) + 1 < 0) = false := by simp; omega
      by_cases h2 : 2 * i + 2 < n
      · have h2d : decide (2 * (i : Int) + 1 + 1 < (n : Int)) = true := by simp; omega
        by_cases h3 : b.getD (2 * i + 2) 0 < b.getD (2 * i + 1) 0
        · have HC := Lib.hid (child_r h2 h3)
          have HL := Lib.hid h3
          clear h3
          go_wp2_with fail
          refine (heapLess_i p g c (2 * i + 2) (2 * i + 1) _ _ (by omega) (by omega) b _ hb (by omega) (by omega)).mono ?_
          rintro e w1 ⟨he, hd1'⟩
          rw [decide_eq_true HL.out] at he
          subst he
          have hb1 := hb.drw hd1'
          have htw1 := htw.drw hd1'
          clear hd1' hb htw
          have hjl : 2 * i + 2 < b.length := by omega
          have hil : i < b.length := by omega
          by_cases h4 : b.getD (2 * i + 2) 0 < b.getD i 0
          · have HL4 := Lib.hid h4
            clear h4
            go_wp2_with fail
            refine (heapLess_i p g c (2 * i + 2) i _ _ (by omega) rfl b _ hb1 hjl hil).mono ?_
            rintro e w3 ⟨he, hd3⟩
            rw [decide_eq_true HL4.out] at he
            subst he
            have hb3 := hb1.drw hd3
            have htw3 := htw1.drw hd3
            clear hd3
            go_wp2_with fail
            refine (heapSwap_i p g c i (2 * i + 2) _ _ rfl (by omega) b _ hb3 hil hjl).mono ?_
            rintro e w4 ⟨rfl, hb4, htw4⟩
            have htw5 := htw3.trans htw4
            have HR := Lib.hid (show Dn (swp b i (2 * i + 2)) n (2 * i + 2) ∧ Sift a (swp b i (2 * i + 2)) n from
              ⟨hdb.out.1.step HC.out HL4.out, hdb.out.2.swap hnl (by omega) (by omega)⟩)
            have hsl : (swp b i (2 * i + 2)).length = a.length := by rw [swp_len]; exact hbl
            clear hb3 htw3 htw4 hdb
            go_wp2
            go_roundw
            case rel => exact ⟨2 * i + 2, _, (by refine congrArg (Value.int .i64) ?_; omega), by omega, hb4, hsl, HR.out, htw5⟩
            case measure => simp [intOf]; omega
          · have HL4 := Lib.hid h4
            clear h4
            go_wp2_with fail
            refine (heapLess_i p g c (2 * i + 2) i _ _ (by omega) rfl b _ hb1 hjl hil).mono ?_
            rintro e w3 ⟨he, hd3⟩
            rw [decide_eq_false HL4.out] at he
            subst he
            have hb3 := hb1.drw hd3
            have htw3 := htw1.drw hd3
            have HR := Lib.hid (And.intro hdb.out.2 (hdb.out.1.stop HC.out (by have := HL4.out; omega)))
            clear hd3 hdb
            go_wp2
            go_ret
            exact ⟨⟨_, rfl⟩, b, hb3, HR.out.1, HR.out.2, htw3⟩
        · have HC := Lib.hid (child_l h1 (fun h => h3 h.2))
          have HL := Lib.hid h3
          clear h3
          go_wp2_with fail
          refine (heapLess_i p g c (2 * i + 2) (2 * i + 1) _ _ (by omega) (by omega) b _ hb (by omega) (by omega)).mono ?_
          rintro e w1 ⟨he, hd1'⟩
          rw [decide_eq_false HL.out] at he
          subst he
          have hb1 := hb.drw hd1'
          have htw1 := htw.drw hd1'
          clear hd1' hb htw
          have hjl : 2 * i + 1 < b.length := by omega
          have hil : i < b.length := by omega
          by_cases h4 : b.getD (2 * i + 1) 0 < b.getD i 0
          · have HL4 := Lib.hid h4
            clear h4
            go_wp2_with fail
            refine (heapLess_i p g c (2 * i + 1) i _ _ (by omega) rfl b _ hb1 hjl hil).mono ?_
            rintro e w3 ⟨he, hd3⟩
            rw [decide_eq_true HL4.out] at he
            subst he
            have hb3 := hb1.drw hd3
            have htw3 := htw1.drw hd3
            clear hd3
            go_wp2_with fail
            refine (heapSwap_i p g c i (2 * i + 1) _ _ rfl (by omega) b _ hb3 hil hjl).mono ?_
            rintro e w4 ⟨rfl, hb4, htw4⟩
            have htw5 := htw3.trans htw4
            have HR := Lib.hid (show Dn (swp b i (2 * i + 1)) n (2 * i + 1) ∧ Sift a (swp b i (2 * i + 1)) n from
              ⟨hdb.out.1.step HC.out HL4.out, hdb.out.2.swap hnl (by omega) (by omega)⟩)
            have hsl : (swp b i (2 * i + 1)).length = a.length := by rw [swp_len]; exact hbl
            clear hb3 htw3 htw4 hdb
            go_wp2
            go_roundw
            case rel => exact ⟨2 * i + 1, _, (by refine congrArg (Value.int .i64) ?_; omega), by omega, hb4, hsl, HR.out, htw5⟩
            case measure => simp [intOf]; omega
          · have HL4 := Lib.hid h4
            clear h4
            go_wp2_with fail
            refine (heapLess_i p g c (2 * i + 1) i _ _ (by omega) rfl b _ hb1 hjl hil).mono ?_
            rintro e w3 ⟨he, hd3⟩
            rw [decide_eq_false HL4.out] at he
            subst he
            have hb3 := hb1.drw hd3
            have htw3 := htw1.drw hd3
            have HR := Lib.hid (And.intro hdb.out.2 (hdb.out.1.stop HC.out (by have := HL4.out; omega)))
            clear hd3 hdb
            go_wp2
            go_ret
            exact ⟨⟨_, rfl⟩, b, hb3, HR.out.1, HR.out.2, htw3⟩
      · have h2d : decide (2 * (i : Int) + 1 + 1 < (n : Int)) = false := by simp; omega
        have HC := Lib.hid (child_l (a := b) h1 (fun h => h2 h.1))
        have hjl : 2 * i + 1 < b.length := by omega
        have hil : i < b.length := by omega
        by_cases h4 : b.getD (2 * i + 1) 0 < b.getD i 0
        · have HL4 := Lib.hid h4
          clear h4
          go_wp2_with fail
          refine (heapLess_i p g c (2 * i + 1) i _ _ (by omega) rfl b _ hb hjl hil).mono ?_
          rintro e w3 ⟨he, hd3⟩
          rw [decide_eq_true HL4.out] at he
          subst he
          have hb3 := hb.drw hd3
          have htw3 := htw.drw hd3
          clear hd3
          go_wp2_with fail
          refine (heapSwap_i p g c i (2 * i + 1) _ _ rfl (by omega) b _ hb3 hil hjl).mono ?_
          rintro e w4 ⟨rfl, hb4, htw4⟩
          have htw5 := htw3.trans htw4
          have HR := Lib.hid (show Dn (swp b i (2 * i + 1)) n (2 * i + 1) ∧ Sift a (swp b i (2 * i + 1)) n from
            ⟨hdb.out.1.step HC.out HL4.out, hdb.out.2.swap hnl (by omega) (by omega)⟩)
          have hsl : (swp b i (2 * i + 1)).length = a.length := by rw [swp_len]; exact hbl
          clear hb3 htw3 htw4 hdb
          go_wp2
          go_roundw
          case rel => exact ⟨2 * i + 1, _, (by refine congrArg (Value.int .i64) ?_; omega), by omega, hb4, hsl, HR.out, htw5⟩
          case measure => simp [intOf]; omega
        · have HL4 := Lib.hid h4
          clear h4
          go_wp2_with fail
          refine (heapLess_i p g c (2 * i + 1) i _ _ (by omega) rfl b _ hb hjl hil).mono ?_
          rintro e w3 ⟨he, hd3⟩
          rw [decide_eq_false HL4.out] at he
          subst he
          have hb3 := hb.drw hd3
          have htw3 := htw.drw hd3
          have HR := Lib.hid (And.intro hdb.out.2 (hdb.out.1.stop HC.out (by have := HL4.out; omega)))
          clear hd3 hdb
          go_wp2
          go_ret
          exact ⟨⟨_, rfl⟩, b, hb3, HR.out.1, HR.out.2, htw3⟩
    · have hd1 : decide ((n : Int) ≤ 2 * (i : Int) + 1) = true := by simp; omega
      have HR := Lib.hid (And.intro hdb.out.2 (hdb.out.1.leaf (by omega)))
      clear hdb
      go_wp2
      go_ret
      exact ⟨⟨_, rfl⟩, b, hb, HR.out.1, HR.out.2, htw⟩
end Go.Proofs.Ytnfaihgnggmpkaa

/- Sets pushed on the heap and popped from it, the minimal ones kept; quorums as lists: by their contracts. -/
namespace Go.Proofs.Ytnfaihgnggmpkaa
open Go.RowKit

theorem up_i (p g c : Nat) (a : List Nat) (j : Nat) (J : Int) (hJ : J = (j : Int)) (w : World) (h : HG w p g c a) (hu : Up a j) (hl : a.length ≤ 1048576) :
    Calls Try.prog 76 #[.iface 76 (.pointer (some ⟨p, 0, none⟩)), .int .i64 J] w fun e w' => e = .returned (.tuple #[]) ∧ ∃ b, HG w' p g c b ∧ Sift a b a.length ∧ HeapN b b.length ∧ Two p g w w' := by
  subst hJ
  exact up_any p g c a j w h hu hl
theorem down_i (p g c n : Nat) (N : Int) (hN : N = (n : Int)) (a : List Nat) (w : World) (h : HG w p g c a) (hu : Dn a n 0) (hl : a.length ≤ 1048576) :
    Calls Try.prog 77 #[.iface 76 (.pointer (some ⟨p, 0, none⟩)), .int .i64 0, .int .i64 N] w fun e w' => (∃ r, e = .returned (.bool r)) ∧ ∃ b, HG w' p g c b ∧ Sift a b n ∧ HeapN b n ∧ Two p g w w' := by
  subst hN
  exact down_any p g c n a w h hu hl

set_option maxRecDepth 100000 in
set_option maxHeartbeats 400000 in
theorem hsLen_any (lo p : Nat) (a : List Nat) (w : World) (h : HS w lo p a) :
    Calls Try.prog 72 #[.pointer (some ⟨p, 0, none⟩)] w fun e w' => e = .returned (.int .i64 a.length) ∧ w = w' := by
  obtain ⟨_, v, hp, ho⟩ := h
  obtain ⟨A', c', rfl⟩ := own_slice ho
  have c0 : w.cell? ⟨p, 0, none⟩ = some (.slice A' a.length c') := by rw [cell_of_row w p 0 _ _ (0, 0) hp]; rfl
  clear hp ho
  go_enter Try.func72, Try.ntmps72
  go_wp2
  go_ret
  exact ⟨rfl, rfl⟩

/-- A heap of the masks a, the least first. -/
def HeapAt (w : World) (lo p : Nat) (a : List Nat) : Prop := HS w lo p a ∧ HeapN a a.length

set_option maxRecDepth 100000 in
set_option maxHeartbeats 800000 in
theorem push_any (lo p s : Nat) (a : List Nat) (w : World) (h : HeapAt w lo p a) (hl : a.length ≤ 1000) :
    Calls Try.prog 71 #[.iface 76 (.pointer (some ⟨p, 0, none⟩)), .iface 62 (.int .u8 s)] w fun e w' => e = .returned (.tuple #[]) ∧ ∃ b, HeapAt w' lo p b ∧ b.Perm (s :: a) ∧ b.length = a.length + 1 ∧ Below lo w w' := by
  have hm1 := m_push
  have hm2 := m_len
  have hlo : lo ≤ p := h.1.1
  go_enter Try.func71, Try.ntmps71
  go_wp2_with fail
  refine (heapPush_any lo p s a _ h.1 hl).mono ?_
  rintro e w1 ⟨rfl, hs1, hb1⟩
  obtain ⟨g, c, hg1, hlg⟩ := hs1.hg (by simp)
  have HU := Lib.hid (Up.start h.2 s)
  have hP : (a ++ [s]).Perm (s :: a) := List.perm_append_comm
  have HPm := Lib.hid hP
  obtain ⟨n, hn⟩ : ∃ n, n = a.length := ⟨_, rfl⟩
  have hA : (a ++ [s]).length = n + 1 := by simp [hn]
  rw [← hn] at HU
  have HN := Lib.hid hn
  have hn1 : n ≤ 1000 := by omega
  generalize a ++ [s] = A1 at *
  clear hP hs1 h hn
  go_wp2_with fail
  refine (heapLen_any p g c A1 _ hg1).mono ?_
  rintro e w' ⟨rfl, rfl⟩
  go_wp2_with fail
  refine (up_i p g c A1 n _ (by omega) _ hg1 HU.out (by omega)).mono ?_
  rintro e w2 ⟨rfl, b, hgb, hsf, hhp, htw⟩
  have HR := Lib.hid (show HeapAt w2 lo p b ∧ b.Perm (s :: a) ∧ b.length = a.length + 1 ∧ Below lo w w2 from
    ⟨⟨hgb.hs hlo hlg, hhp⟩, hsf.2.1.trans HPm.out, by rw [← HN.out]; exact hsf.1.trans hA, hb1.trans (htw.below hlo hlg)⟩)
  clear hgb hsf hhp htw hb1 hg1
  go_wp2
  go_end0
  exact ⟨rfl, b, HR.out⟩

set_option maxRecDepth 100000 in
set_option maxHeartbeats 400000 in
theorem add_any (lo p s : Nat) (a : List Nat) (w : World) (h : HeapAt w lo p a) (hl : a.length ≤ 1000) :
    Calls Try.prog 60 #[.pointer (some ⟨p, 0, none⟩), .int .u8 s] w fun e w' => e = .returned (.tuple #[]) ∧ ∃ b, HeapAt w' lo p b ∧ b.Perm (s :: a) ∧ b.length = a.length + 1 ∧ Below lo w w' := by
  go_enter Try.func60, Try.ntmps60
  go_wp2_with fail
  refine (push_any lo p s a _ h hl).mono ?_
  rintro e w1 ⟨rfl, HR⟩
  have HR := Lib.hid HR
  go_wp2
  go_end0
  exact ⟨rfl, HR.out⟩

set_option maxRecDepth 100000 in
set_option maxHeartbeats 800000 in
theorem pop_any (p g c n : Nat) (a : List Nat) (w : World) (h : HG w p g c a) (hh : HeapN a a.length) (hn : a.length = n + 1) (hl : n ≤ 1000) :
    Calls Try.prog 73 #[.iface 76 (.pointer (some ⟨p, 0, none⟩))] w fun e w' => e = .returned (.iface 62 (.int .u8 ((a.getD 0 0 : Nat) : Int))) ∧ ∃ b, HG w' p g c b ∧ a.Perm (a.getD 0 0 :: b) ∧ HeapN b b.length ∧ (∀ x ∈ b, a.getD 0 0 ≤ x) ∧ b.length = n ∧ Two p g w w' := by
  have hm1 := m_pop
  have hm2 := m_len
  have hm3 := m_swap
  have HH := Lib.hid hh
  clear hh
  generalize hx : a.getD 0 0 = x
  have HX := Lib.hid hx
  clear hx
  go_enter Try.func73, Try.ntmps73
  go_wp2_with fail
  refine (heapLen_any p g c a _ h).mono ?_
  rintro e w' ⟨rfl, rfl⟩
  go_wp2_with fail
  refine (heapSwap_i p g c 0 n _ _ (by omega) (by omega) a _ h (by omega) (by omega)).mono ?_
  rintro e w1 ⟨rfl, h1, t1⟩
  have hs1 : (swp a 0 n).length = n + 1 := by rw [swp_len]; exact hn
  have HD := Lib.hid (Dn.start (a := a) (n := n) (by rw [← hn]; exact HH.out) hn)
  clear h
  go_wp2_with fail
  refine (down_i p g c n _ (by omega) (swp a 0 n) _ h1 HD.out (by omega)).mono ?_
  rintro e w2 ⟨⟨r, rfl⟩, b, h2, hsf, hhp, t2⟩
  have HPp := Lib.hid (popped hn (by rw [← hn]; exact HH.out) hsf hhp)
  rw [HX.out] at HPp
  have hbl : b.length = n + 1 := HPp.out.1
  have HS2 := Lib.hid hsf
  have HH2 := Lib.hid hhp
  clear h1 hsf hhp
  go_wp2_with fail
  refine (heapPop_any p g c n b _ h2 (by omega) hbl).mono ?_
  rintro e w3 ⟨rfl, h3, t3⟩
  have HT := Lib.hid ((t1.trans t2).trans t3)
  have HB := Lib.hid h3
  clear h2 t1 t2 t3 h3
  have HE := Lib.hid HPp.out.2.1
  generalize b.getD n 0 = y at *
  obtain rfl : y = x := HE.out
  go_wp2
  go_ret
  exact ⟨rfl, b.take n, HB.out, HPp.out.2.2.1, HPp.out.2.2.2.1, HPp.out.2.2.2.2, by simp; omega, HT.out⟩

theorem app_low {lo : Nat} {w1 w2 : World} {o : Obj} {base n : Nat} {e : TypeId} {v : Value} {xs : List Value} (hown : w1.ownsRow base e 1 v n xs) (hbase : lo ≤ base) (hlo : lo ≤ w1.heap.size) (hg : (w1.alloc o).grownBy w2 v.ownBlock) : Below lo w1 w2 :=
  ((Below.refl lo w1).alloc hlo o).grown hg (by simp; omega) (fun k hk => Nat.le_trans hbase (hown.lt k hk).1)
/-- How many sets the heap at block p holds. -/
def hlen (w : World) (p : Nat) : Nat := match w.cell? ⟨p, 0, none⟩ with | some (.slice _ n _) => n | _ => 0
theorem HG.hlen {w : World} {p g c : Nat} {a : List Nat} (h : HG w p g c a) : hlen w p = a.length := by unfold Go.Proofs.Ytnfaihgnggmpkaa.hlen; rw [h.c0]

/-- A family of the call's own. -/
def Fam (w : World) (lo : Nat) (K : List Nat) (e : Ending) (w' : World) : Prop :=
  ∃ A c, e = .returned (.slice A K.length c) ∧ w'.ownsRow w.heap.size 62 1 (.slice A K.length c) K.length (ubs K) ∧ Below lo w w'

set_option maxRecDepth 100000 in
set_option maxHeartbeats 1600000 in
theorem minimal_any (lo p : Nat) (S a : List Nat) (w : World) (h : HeapAt w lo p a) (hp : a.Perm S) (hS : Msk S) (hl : a.length ≤ 1000) :
    Calls Try.prog 61 #[.pointer (some ⟨p, 0, none⟩)] w (Fam w lo (mins S)) := by
  obtain ⟨i0, hi0, hz0, hz1, hz2⟩ := info_parts bits_info
  have hta := ta_bits
  by_cases hnil : a = []
  · subst hnil
    have HM := Lib.hid ((Kept.start S [] hp).done hS)
    have hh := h.1
    go_enter Try.func61, Try.ntmps61
    go_wp2
    go_loopw [3] (fun v wr => v = .slice none 0 0 ∧ wr = w) (fun _ _ => 0)
    case atStart => exact ⟨rfl, rfl⟩
    case round =>
      obtain ⟨rfl, rfl⟩ := hrel
      go_wp2_with fail
      refine (hsLen_any lo p [] _ hh).mono ?_
      rintro e w' ⟨rfl, rfl⟩
      go_wp2
      go_ret
      rw [← HM.out]
      exact ⟨none, 0, rfl, World.ownsRow_nil _ _ _ _, Below.refl _ _⟩
  · obtain ⟨g, c, hg, hlg⟩ := h.1.hg hnil
    have hlp : lo ≤ p := h.1.1
    have hpw := hg.lt
    have HK0 := Lib.hid (Kept.start S a hp)
    have HH0 := Lib.hid h.2
    have HS := Lib.hid hS
    clear h hp hS hnil
    go_enter Try.func61, Try.ntmps61
    go_wp2
    go_loopw [3] (fun v wr => ∃ b K : List Nat, HG wr p g c b ∧ b.length ≤ 1000 ∧ Hid (HeapN b b.length ∧ Kept S b K) ∧ wr.ownsRow w.heap.size 62 1 v K.length (ubs K) ∧ Below lo w wr) (fun _ wr => hlen wr p)
    case atStart => exact ⟨a, [], hg, hl, ⟨HH0.out, HK0.out⟩, World.ownsRow_nil _ _ _ _, Below.refl _ _⟩
    case round =>
      clear hg
      obtain ⟨b, K, hb, hbl, hk, hown, hbel⟩ := hrel
      have HL := Lib.hid hb.hlen
      by_cases hb0 : b.length = 0
      · have hbe := List.eq_nil_of_length_eq_zero hb0
        subst hbe
        have HM := Lib.hid (hk.out.2.done HS.out)
        obtain ⟨A', c', rfl⟩ := own_slice hown
        have HO := Lib.hid (And.intro hown hbel)
        clear hk hown hbel hb0
        go_wp2_with fail
        refine (heapLen_any p g c [] _ hb).mono ?_
        rintro e w' ⟨rfl, rfl⟩
        go_wp2
        go_ret
        rw [← HM.out]
        exact ⟨A', c', rfl, HO.out.1, HO.out.2⟩
      · obtain ⟨n, hn⟩ : ∃ n, b.length = n + 1 := ⟨b.length - 1, by omega⟩
        have hKM := (hk.out.2.msk HS.out)
        have hKl := hk.out.2.len HS.out
        have hs64 : b.getD 0 0 < 64 := set_lt hKM.1 (by omega)
        have hK2 := hKM.2
        clear hKM
        go_wp2_with fail
        refine (heapLen_any p g c b _ hb).mono ?_
        rintro e w' ⟨rfl, rfl⟩
        have hpos : (0 : Int) < (b.length : Int) := by omega
        go_wp2_with fail
        refine (pop_any p g c n b _ hb hk.out.1 hn (by omega)).mono ?_
        rintro e w1 ⟨rfl, b', hb', hperm, hhp, hmin, hbl', htw⟩
        have HST := Lib.hid (hk.out.2.step HS.out hperm hmin)
        have HHP := Lib.hid hhp
        have hs1 := htw.size
        have hbel1 : Below lo w w1 := hbel.trans (htw.below hlp hlg)
        have hown1 : w1.ownsRow w.heap.size 62 1 _ K.length (ubs K) := own_at hown fun k hk' => htw.block k (by have := (hown.lt k hk').1; omega) (by have := (hown.lt k hk').1; omega)
        clear hown hbel hperm hhp hmin hb htw hk
        obtain ⟨A', c', rfl⟩ := own_slice hown1
        have hib := (IB.of_own hown1).1
        generalize b.getD 0 0 = s at *
        cases hq : hasQ K s
        · have HQ := Lib.hid hq
          clear hq
          go_wp2_with fail
          refine (hasQuorum_any _ _ _ _ _ hib (by omega) hK2 hs64).mono ?_
          rintro e w' ⟨he, rfl⟩
          rw [HQ.out] at he
          subst he
          go_wp2_with (at_builtin; refine wpList_append_own _ rfl (.tmp 23) (.tmp 25) 42 rfl w.heap.size 62 i0 (.int .u8 0) 1 1 Try.underlying42 hi0 hz0 hz1 hz2 rfl (by decide) _ _ _ rfl (hown1.alloc _) ⟨w1.heap.size, 0, none⟩ 1 1 [.int .u8 (s : Nat)] rfl rfl (cell_one_new _ _ _) (ints_oneCell .u8 [(s : Int)]) (by unfold maxLen; omega) (by omega) (by have := hbel1.size; simp; omega) ?_)
          intro v' w2 hown2 hgrow _
          have R := Lib.hid (show HG w2 p g c b' ∧ w2.ownsRow w.heap.size 62 1 v' (K ++ [s]).length (ubs (K ++ [s])) ∧ Below lo w w2 ∧ hlen w2 p < hlen wr p by
            have hb1 := hbel1.size
            have e1 : ∀ k, k < w.heap.size → w2.heap[k]? = w1.heap[k]? := fun k hk => by
              rw [hgrow.block k (by simp; omega) (fun e => by have := (hown1.lt k e.symm).1; omega), Below.heap_alloc w1 _ k (by omega)]
            have hg2 : HG w2 p g c b' := hb'.kept (e1 p hpw.1) (e1 g hpw.2)
            refine ⟨hg2, ?_, ?_, ?_⟩
            · rw [ubs_snoc]; simpa using hown2
            · exact hbel1.trans (app_low hown1 (by omega) (by omega) hgrow)
            · rw [hg2.hlen, HL.out]; omega)
          clear hown1 hown2 hgrow hbel1 hib hb'
          go_wp2
          go_roundw
          case rel => exact ⟨b', K ++ [s], R.out.1, by omega, ⟨HHP.out, HST.out.2 HQ.out⟩, R.out.2.1, R.out.2.2.1⟩
          case measure => exact R.out.2.2.2
        · have HQ := Lib.hid hq
          clear hq
          go_wp2_with fail
          refine (hasQuorum_any _ _ _ _ _ hib (by omega) hK2 hs64).mono ?_
          rintro e w' ⟨he, rfl⟩
          rw [HQ.out] at he
          subst he
          have R := Lib.hid (show HG w1 p g c b' ∧ w1.ownsRow w.heap.size 62 1 (.slice A' K.length c') K.length (ubs K) ∧ Below lo w w1 ∧ hlen w1 p < hlen wr p from
            ⟨hb', hown1, hbel1, by rw [hb'.hlen, HL.out]; omega⟩)
          clear hown1 hbel1 hib hb'
          go_wp2
          go_roundw
          case rel => exact ⟨b', K, R.out.1, by omega, ⟨HHP.out, HST.out.1 HQ.out⟩, R.out.2.1, R.out.2.2.1⟩
          case measure => exact R.out.2.2.2
end Go.Proofs.Ytnfaihgnggmpkaa

/- The heap of sets beside other memory: which blocks its functions turn. -/
namespace Go.Proofs.Ytnfaihgnggmpkaa
open Go.RowKit

/-- Of what lay before, only block p and block g have been written. -/
structure Fr (p g : Nat) (w w' : World) : Prop where
  os : w'.os = w.os
  tape : w'.tape = w.tape
  output : w'.output = w.output
  size : w.heap.size ≤ w'.heap.size
  block : ∀ i, i < w.heap.size → i ≠ p → i ≠ g → w'.heap[i]? = w.heap[i]?
theorem Fr.refl (p g : Nat) (w : World) : Fr p g w w := ⟨rfl, rfl, rfl, Nat.le_refl _, fun _ _ _ _ => rfl⟩
theorem Fr.trans {p g g' : Nat} {a b c : World} (h : Fr p g a b) (k : Fr p g' b c) (hg : g' = g ∨ a.heap.size ≤ g') : Fr p g a c :=
  ⟨k.os.trans h.os, k.tape.trans h.tape, k.output.trans h.output, Nat.le_trans h.size k.size, fun i h1 h2 h3 => (k.block i (Nat.lt_of_lt_of_le h1 h.size) h2 (by omega)).trans (h.block i h1 h2 h3)⟩
theorem Two.fr {p g : Nat} {w w' : World} (h : Two p g w w') : Fr p g w w' := ⟨h.os, h.tape, h.output, Nat.le_of_eq h.size, fun i _ h2 h3 => h.block i h2 h3⟩
theorem Fr.of_below {p g : Nat} {w w' : World} (h : Below w.heap.size w w') : Fr p g w w' := ⟨h.os, h.tape, h.output, h.size, fun i h1 _ _ => h.block i h1⟩
theorem Fr.below {p g lo : Nat} {w w' : World} (h : Fr p g w w') (hp : lo ≤ p) (hg : lo ≤ g) (hl : lo ≤ w.heap.size) : Below lo w w' :=
  ⟨h.os, h.tape, h.output, h.size, fun i hi => h.block i (by omega) (by omega) (by omega)⟩

/-- What an append to the heap's slice leaves. -/
theorem pushedF {w w1 : World} {p g c s : Nat} {a : List Nat} {v' : Value} {o : Obj} (h : HG w p g c a)
    (ho' : w1.ownsRow 0 62 1 v' (a.length + 1) (ubs a ++ [.int .u8 (s : Int)])) (hg : (w.alloc o).grownBy w1 (Value.slice (some ⟨g, 0, none⟩) a.length c).ownBlock)
    (hloc : v'.ownBlock = (Value.slice (some ⟨g, 0, none⟩) a.length c).ownBlock ∨ v'.ownBlock = some (w.heap.size + 1)) :
    ∃ g' c', v' = .slice (some ⟨g', 0, none⟩) (a.length + 1) c' ∧ (g' = g ∨ w.heap.size ≤ g') ∧ w1.cell? ⟨p, 0, none⟩ = some (.slice (some ⟨g, 0, none⟩) a.length c) ∧ w1.frozen? ⟨p, 0, none⟩ = false ∧
      HG (w1.setCell ⟨p, 0, none⟩ v') p g' c' (a ++ [s]) ∧ Fr p g w (w1.setCell ⟨p, 0, none⟩ v') := by
  have hlt := h.lt
  have hne := h.ne
  have hp1 : w1.heap[p]? = some (.cells #[.slice (some ⟨g, 0, none⟩) a.length c] 77 (0, 0)) := by
    rw [hg.block p (by simp; omega) (by simp [Value.ownBlock]; exact hne), Below.heap_alloc w _ p hlt.1, h.1]
  obtain ⟨g', c', rfl⟩ : ∃ g' c', v' = .slice (some ⟨g', 0, none⟩) (a.length + 1) c' := by
    rcases ho'.2 with ⟨_, h0⟩ | ⟨g', cap, cur, hv, _⟩
    · omega
    · exact ⟨g', cap, hv⟩
  have hgp : g' ≠ p := by
    rintro rfl
    obtain ⟨cur, h2⟩ := own_cells ho' g' rfl
    rw [hp1] at h2
    injection h2 with h2
    injection h2 with _ h2
    exact absurd h2 (by decide)
  refine ⟨g', c', rfl, ?_, by rw [cell_of_row w1 p 0 _ _ (0, 0) hp1]; rfl, frozen_of_row w1 p 0 _ _ hp1, ⟨?_, ?_⟩, ?_⟩
  · rcases hloc with e | e
    · simp [Value.ownBlock] at e; exact .inl e
    · simp [Value.ownBlock] at e; right; omega
  · rw [show (a ++ [s]).length = a.length + 1 by simp]
    exact heap_setCell_same w1 p 0 _ _ _ hp1
  · have h2 := own_at (w' := w1.setCell ⟨p, 0, none⟩ (.slice (some ⟨g', 0, none⟩) (a.length + 1) c')) ho' fun k hk => by cases hk; exact Below.heap_setCell w1 ⟨p, 0, none⟩ _ g' hgp
    rw [ubs_snoc]
    simpa using h2
  · refine ⟨hg.os, hg.tape, hg.output, by have := hg.size; simp [World.setCell] at this ⊢; omega, fun i h1 h2 h3 => ?_⟩
    rw [Below.heap_setCell w1 ⟨p, 0, none⟩ _ i h2, hg.block i (by simp; omega) (by simp [Value.ownBlock]; exact h3), Below.heap_alloc w _ i h1]

set_option maxRecDepth 100000 in
set_option maxHeartbeats 800000 in
theorem heapPushF (p g c s : Nat) (a : List Nat) (w : World) (h : HG w p g c a) (hl : a.length ≤ 1000) :
    Calls Try.prog 98 #[.pointer (some ⟨p, 0, none⟩), .iface 62 (.int .u8 s)] w fun e w' => e = .returned (.tuple #[]) ∧ ∃ g' c', HG w' p g' c' (a ++ [s]) ∧ (g' = g ∨ w.heap.size ≤ g') ∧ Fr p g w w' := by
  obtain ⟨i0, hi0, hz0, hz1, hz2⟩ := info_parts bits_info
  have c0 := h.c0
  have hta := ta_bits
  have ho := h.2
  have HH := Lib.hid h
  clear h
  go_enter Try.func98, Try.ntmps98
  go_wp2_with (at_builtin; refine wpList_append_own_at _ rfl (.tmp 15) (.tmp 17) 77 rfl 0 62 i0 (.int .u8 0) 1 1 Try.underlying77 hi0 hz0 hz1 hz2 rfl (by decide) _ _ _ rfl (ho.alloc _) ⟨w.heap.size, 0, none⟩ 1 1 [.int .u8 s] rfl rfl (cell_one_new _ _ _) (ints_oneCell .u8 [(s : Int)]) (by unfold maxLen; omega) (by omega) (Nat.zero_le _) ?_)
  intro v' w1 hown' hgrow _ hloc
  obtain ⟨g', c', rfl, k0, k1, k2, k3, k4⟩ := pushedF HH.out hown' hgrow hloc
  have HK := Lib.hid (And.intro k3 k4)
  clear k3 k4 hown' hgrow ho c0 hloc
  go_wp2
  go_end0
  exact ⟨rfl, g', c', HK.out.1, k0, HK.out.2⟩

set_option maxRecDepth 100000 in
set_option maxHeartbeats 800000 in
theorem pushF (p g c s : Nat) (a : List Nat) (w : World) (h : HG w p g c a) (hh : HeapN a a.length) (hl : a.length ≤ 1000) :
    Calls Try.prog 71 #[.iface 76 (.pointer (some ⟨p, 0, none⟩)), .iface 62 (.int .u8 s)] w fun e w' => e = .returned (.tuple #[]) ∧ ∃ g' c' b, HG w' p g' c' b ∧ HeapN b b.length ∧ b.Perm (s :: a) ∧ (g' = g ∨ w.heap.size ≤ g') ∧ Fr p g w w' := by
  have hm1 := m_push
  have hm2 := m_len
  have HU := Lib.hid (Up.start hh s)
  clear hh
  go_enter Try.func71, Try.ntmps71
  go_wp2_with fail
  refine (heapPushF p g c s a _ h hl).mono ?_
  rintro e w1 ⟨rfl, g', c', hg1, hgg, hf1⟩
  have hP : (a ++ [s]).Perm (s :: a) := List.perm_append_comm
  have HPm := Lib.hid hP
  obtain ⟨n, hn⟩ : ∃ n, n = a.length := ⟨_, rfl⟩
  have hA : (a ++ [s]).length = n + 1 := by simp [hn]
  rw [← hn] at HU
  have hn1 : n ≤ 1000 := by omega
  generalize a ++ [s] = A1 at *
  clear hP h hn
  go_wp2_with fail
  refine (heapLen_any p g' c' A1 _ hg1).mono ?_
  rintro e w' ⟨rfl, rfl⟩
  go_wp2_with fail
  refine (up_i p g' c' A1 n _ (by omega) _ hg1 HU.out (by omega)).mono ?_
  rintro e w2 ⟨rfl, b, hgb, hsf, hhp, htw⟩
  have HR := Lib.hid (show HG w2 p g' c' b ∧ HeapN b b.length ∧ b.Perm (s :: a) ∧ (g' = g ∨ w.heap.size ≤ g') ∧ Fr p g w w2 from
    ⟨hgb, hhp, hsf.2.1.trans HPm.out, hgg, hf1.trans htw.fr hgg⟩)
  clear hgb hsf hhp htw hg1 hgg hf1
  go_wp2
  go_end0
  exact ⟨rfl, g', c', b, HR.out⟩

set_option maxRecDepth 100000 in
set_option maxHeartbeats 400000 in
theorem addF (p g c s : Nat) (a : List Nat) (w : World) (h : HG w p g c a) (hh : HeapN a a.length) (hl : a.length ≤ 1000) :
    Calls Try.prog 60 #[.pointer (some ⟨p, 0, none⟩), .int .u8 s] w fun e w' => e = .returned (.tuple #[]) ∧ ∃ g' c' b, HG w' p g' c' b ∧ HeapN b b.length ∧ b.Perm (s :: a) ∧ (g' = g ∨ w.heap.size ≤ g') ∧ Fr p g w w' := by
  go_enter Try.func60, Try.ntmps60
  go_wp2_with fail
  refine (pushF p g c s a _ h hh hl).mono ?_
  rintro e w1 ⟨rfl, HR⟩
  have HR := Lib.hid HR
  go_wp2
  go_end0
  exact ⟨rfl, HR.out⟩

/-- A family of the call's own; of the rest only the heap was written. -/
def FamF (w : World) (p g : Nat) (K : List Nat) (e : Ending) (w' : World) : Prop :=
  ∃ A c, e = .returned (.slice A K.length c) ∧ w'.ownsRow w.heap.size 62 1 (.slice A K.length c) K.length (ubs K) ∧ Fr p g w w'

theorem app_fr {B : Nat} {w1 w2 : World} {o : Obj} {n : Nat} {e : TypeId} {v : Value} {xs : List Value} (hown : w1.ownsRow B e 1 v n xs) (hB : B ≤ w1.heap.size) (hg : (w1.alloc o).grownBy w2 v.ownBlock) : Below B w1 w2 :=
  ⟨hg.os, hg.tape, hg.output, by have := hg.size; simp at this; omega, fun i h1 => by
    rw [hg.block i (by simp; omega) (fun e => by have := (hown.lt i e.symm).1; omega), Below.heap_alloc w1 _ i (by omega)]⟩
theorem Fr.then_ {p g : Nat} {a b c : World} (h : Fr p g a b) (k : Below a.heap.size b c) : Fr p g a c :=
  ⟨k.os.trans h.os, k.tape.trans h.tape, k.output.trans h.output, Nat.le_trans h.size k.size, fun i h1 h2 h3 => (k.block i h1).trans (h.block i h1 h2 h3)⟩

set_option maxRecDepth 100000 in
set_option maxHeartbeats 1600000 in
theorem minimalF (p g c : Nat) (S a : List Nat) (w : World) (hg : HG w p g c a) (hh : HeapN a a.length) (hp : a.Perm S) (hS : Msk S) (hl : a.length ≤ 1000) :
    Calls Try.prog 61 #[.pointer (some ⟨p, 0, none⟩)] w (FamF w p g (mins S)) := by
  obtain ⟨i0, hi0, hz0, hz1, hz2⟩ := info_parts bits_info
  have hta := ta_bits
  have hpw := hg.lt
  have HK0 := Lib.hid (Kept.start S a hp)
  have HH0 := Lib.hid hh
  have HS := Lib.hid hS
  clear hh hp hS
  go_enter Try.func61, Try.ntmps61
  go_wp2
  go_loopw [3] (fun v wr => ∃ b K : List Nat, HG wr p g c b ∧ b.length ≤ 1000 ∧ Hid (HeapN b b.length ∧ Kept S b K) ∧ wr.ownsRow w.heap.size 62 1 v K.length (ubs K) ∧ Fr p g w wr) (fun _ wr => hlen wr p)
  case atStart => exact ⟨a, [], hg, hl, ⟨HH0.out, HK0.out⟩, World.ownsRow_nil _ _ _ _, Fr.refl _ _ _⟩
  case round =>
    clear hg
    obtain ⟨b, K, hb, hbl, hk, hown, hbel⟩ := hrel
    have HL := Lib.hid hb.hlen
    by_cases hb0 : b.length = 0
    · have hbe := List.eq_nil_of_length_eq_zero hb0
      subst hbe
      have HM := Lib.hid (hk.out.2.done HS.out)
      obtain ⟨A', c', rfl⟩ := own_slice hown
      have HO := Lib.hid (And.intro hown hbel)
      clear hk hown hbel hb0
      go_wp2_with fail
      refine (heapLen_any p g c [] _ hb).mono ?_
      rintro e w' ⟨rfl, rfl⟩
      go_wp2
      go_ret
      rw [← HM.out]
      exact ⟨A', c', rfl, HO.out.1, HO.out.2⟩
    · obtain ⟨n, hn⟩ : ∃ n, b.length = n + 1 := ⟨b.length - 1, by omega⟩
      have hKM := (hk.out.2.msk HS.out)
      have hKl := hk.out.2.len HS.out
      have hs64 : b.getD 0 0 < 64 := set_lt hKM.1 (by omega)
      have hK2 := hKM.2
      clear hKM
      go_wp2_with fail
      refine (heapLen_any p g c b _ hb).mono ?_
      rintro e w' ⟨rfl, rfl⟩
      have hpos : (0 : Int) < (b.length : Int) := by omega
      go_wp2_with fail
      refine (pop_any p g c n b _ hb hk.out.1 hn (by omega)).mono ?_
      rintro e w1 ⟨rfl, b', hb', hperm, hhp, hmin, hbl', htw⟩
      have HST := Lib.hid (hk.out.2.step HS.out hperm hmin)
      have HHP := Lib.hid hhp
      have hs1 := htw.size
      have hbel1 : Fr p g w w1 := hbel.trans htw.fr (.inl rfl)
      have hown1 : w1.ownsRow w.heap.size 62 1 _ K.length (ubs K) := own_at hown fun k hk' => htw.block k (by have := (hown.lt k hk').1; omega) (by have := (hown.lt k hk').1; omega)
      clear hown hbel hperm hhp hmin hb htw hk
      obtain ⟨A', c', rfl⟩ := own_slice hown1
      have hib := (IB.of_own hown1).1
      generalize b.getD 0 0 = s at *
      cases hq : hasQ K s
      · have HQ := Lib.hid hq
        clear hq
        go_wp2_with fail
        refine (hasQuorum_any _ _ _ _ _ hib (by omega) hK2 hs64).mono ?_
        rintro e w' ⟨he, rfl⟩
        rw [HQ.out] at he
        subst he
        go_wp2_with (at_builtin; refine wpList_append_own _ rfl (.tmp 23) (.tmp 25) 42 rfl w.heap.size 62 i0 (.int .u8 0) 1 1 Try.underlying42 hi0 hz0 hz1 hz2 rfl (by decide) _ _ _ rfl (hown1.alloc _) ⟨w1.heap.size, 0, none⟩ 1 1 [.int .u8 (s : Nat)] rfl rfl (cell_one_new _ _ _) (ints_oneCell .u8 [(s : Int)]) (by unfold maxLen; omega) (by omega) (by have := hbel1.size; simp; omega) ?_)
        intro v' w2 hown2 hgrow _
        have R := Lib.hid (show HG w2 p g c b' ∧ w2.ownsRow w.heap.size 62 1 v' (K ++ [s]).length (ubs (K ++ [s])) ∧ Fr p g w w2 ∧ hlen w2 p < hlen wr p by
          have hb1 := hbel1.size
          have e1 : ∀ k, k < w.heap.size → w2.heap[k]? = w1.heap[k]? := fun k hk => by
            rw [hgrow.block k (by simp; omega) (fun e => by have := (hown1.lt k e.symm).1; omega), Below.heap_alloc w1 _ k (by omega)]
          have hg2 : HG w2 p g c b' := hb'.kept (e1 p hpw.1) (e1 g hpw.2)
          refine ⟨hg2, ?_, ?_, ?_⟩
          · rw [ubs_snoc]; simpa using hown2
          · exact hbel1.then_ (app_fr hown1 hb1 hgrow)
          · rw [hg2.hlen, HL.out]; omega)
        clear hown1 hown2 hgrow hbel1 hib hb'
        go_wp2
        go_roundw
        case rel => exact ⟨b', K ++ [s], R.out.1, by omega, ⟨HHP.out, HST.out.2 HQ.out⟩, R.out.2.1, R.out.2.2.1⟩
        case measure => exact R.out.2.2.2
      · have HQ := Lib.hid hq
        clear hq
        go_wp2_with fail
        refine (hasQuorum_any _ _ _ _ _ hib (by omega) hK2 hs64).mono ?_
        rintro e w' ⟨he, rfl⟩
        rw [HQ.out] at he
        subst he
        have R := Lib.hid (show HG w1 p g c b' ∧ w1.ownsRow w.heap.size 62 1 (.slice A' K.length c') K.length (ubs K) ∧ Fr p g w w1 ∧ hlen w1 p < hlen wr p from
          ⟨hb', hown1, hbel1, by rw [hb'.hlen, HL.out]; omega⟩)
        clear hown1 hbel1 hib hb'
        go_wp2
        go_roundw
        case rel => exact ⟨b', K, R.out.1, by omega, ⟨HHP.out, HST.out.1 HQ.out⟩, R.out.2.1, R.out.2.2.1⟩
        case measure => exact R.out.2.2.2
end Go.Proofs.Ytnfaihgnggmpkaa
