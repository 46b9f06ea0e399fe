/- The reference model's quorum systems: their test and their quorums, by their contracts. -/
import Derived.Test.YtbkdhjmfphhhoaaGb
import Derived.Deep.RegionWith
import Derived.Test.YtbkdhjmfphhhoaaGa
import Derived.BigRegion
import Derived.Maps.AppendAt
namespace Go.Proofs.Ytbkdhjmfphhhoaa
open Go.RowKit

set_option maxRecDepth 100000 in
set_option maxHeartbeats 1600000 in
theorem specValid_drew (A : Option Addr) (c : Nat) (l : List Int) (w : World) (ha : IL w A l) (hl : l.length ≤ 1048576) :
    Calls Try.prog 25 #[.slice A l.length c] w fun e w' => e = .returned (.bool (vld l)) ∧ ∃ n, w' = w.drewN n := by
  go_enter Try.func25, Try.ntmps25
  go_wp2
  go_loopw [3] (fun i wr => ∃ (k : Nat) (q : Int), k ≤ l.length ∧ i = .int .i64 k ∧ 0 ≤ q ∧ Hid (Last l k q) ∧ Hid (vf q (l.drop k) = vld l) ∧ Drew w wr) (fun i _ => l.length - (intOf i).toNat)
  case atStart => exact ⟨0, 0, Nat.zero_le _, rfl, by omega, .inl ⟨rfl, rfl⟩, rfl, Drew.refl _⟩
  case round =>
    obtain ⟨k, q, hk, rfl, hq0, hlast, hvf, hbel⟩ := hrel
    by_cases hlt : k < l.length
    · obtain ⟨b, off, x, hA, hx, hc⟩ := (ha.below hbel.below).at_ hlt
      have HX := Lib.hid hx
      clear hx
      have hki : (0 : Int) ≤ (k : Int) := by omega
      have hki2 : (k : Int) < (l.length : Int) := by omega
      by_cases hin : 1 ≤ x ∧ x ≤ 6
      · obtain ⟨hx1, hx6⟩ := hin
        rcases hlast.out with ⟨h0, rfl⟩ | ⟨j, rfl, hy⟩
        · subst hA
          have H1 := Lib.hid (vf_step HX.out hvf.out (by omega) hx6)
          have H0 := Lib.hid h0
          have hkd : decide (0 < k) = false := by simp; omega
          clear hlast h0
          go_wp2
          go_quiet ((go_at_call 66; exact Calls.quiet_of_same (l6In_yes _ _ _ _ hx1 hx6)))
          go_wp2
          go_roundw
          case rel => exact ⟨k + 1, x, by omega, by go_num, by omega, .inr ⟨k, rfl, HX.out⟩, H1.out, hbel.more _⟩
          case measure => simp [intOf]; omega
        · have hc2 : ∃ b off, A = some ⟨b, off, none⟩ ∧ wr.cell? ⟨b, off + j, none⟩ = some (.int .i64 q) := by
            obtain ⟨b, off, y, hA', hy', hc'⟩ := (ha.below hbel.below).at_ (k := j) (by omega)
            rw [hy] at hy'; obtain rfl := Option.some.inj hy'
            exact ⟨b, off, hA', hc'⟩
          obtain ⟨b', off', hA', hc'⟩ := hc2
          subst hA
          obtain ⟨rfl, rfl⟩ : b = b' ∧ off = off' := by injection hA' with h; injection h with h1 h2; exact ⟨h1, h2⟩
          clear hA' hy hlast
          have hj0 : (0 : Int) ≤ (j : Int) := by omega
          have hj1 : (j : Int) < (l.length : Int) := by omega
          by_cases hqx : q < x
          · have H1 := Lib.hid (vf_step HX.out hvf.out hqx hx6)
            go_wp2
            go_quiet ((go_at_call 66; exact Calls.quiet_of_same (l6In_yes _ _ _ _ hx1 hx6)))
            go_wp2
            go_roundw
            case rel => exact ⟨j + 1 + 1, x, by omega, by go_num, by omega, .inr ⟨j + 1, rfl, HX.out⟩, H1.out, hbel.more _⟩
            case measure => simp [intOf]; omega
          · have H1 := Lib.hid (vf_stop HX.out hvf.out (by omega))
            go_wp2
            go_quiet ((go_at_call 66; exact Calls.quiet_of_same (l6In_yes _ _ _ _ hx1 hx6)))
            go_wp2
            go_ret
            exact ⟨ret_bool H1.out.symm, hbel.more _⟩
      · subst hA
        have H1 := Lib.hid (vf_stop HX.out hvf.out (by omega))
        have ho : x < 1 ∨ 6 < x := by omega
        go_wp2
        go_quiet ((go_at_call 66; exact Calls.quiet_of_same (l6In_no _ _ _ _ ho)))
        go_wp2
        go_ret
        exact ⟨ret_bool H1.out.symm, hbel.more _⟩
    · have hkl : k = l.length := by omega
      subst hkl
      have H1 := Lib.hid (vf_end hvf.out)
      clear hvf hlast
      go_wp2
      go_ret
      exact ⟨ret_bool H1.out.symm, hbel⟩


/-- A callee that leaves the world as it is, in a region that draws. -/
theorem quiet_same {P : Program} {f : FuncId} {args : Array Value} {w : World} {n : Nat} {v : Value}
    (h : Calls P f args (w.drewN n) fun e w' => e = .returned v ∧ w.drewN n = w') : Calls P f args (w.drewN n) fun e w'' => e = .returned v ∧ ∃ m, w'' = w.drewN m :=
  h.mono fun _ _ ⟨he, hm⟩ => ⟨he, n, hm.symm⟩
theorem IL.drew {w : World} {A : Option Addr} {l : List Int} (h : IL w A l) (n : Nat) : IL (w.drewN n) A l := h.below (below_drewN (Below.refl _ _) n)

theorem hasL_take {F : List (List Int)} {k : Nat} {l s : List Int} (h : F[k]? = some l) : hasL (F.take (k + 1)) s = (hasL (F.take k) s || subs l s) := by
  simp [hasL, List.take_add_one, h]
theorem hasL_mem {F : List (List Int)} {k : Nat} {l s : List Int} (h : F[k]? = some l) (hs : subs l s = true) : hasL F s = true :=
  List.any_eq_true.2 ⟨l, List.mem_of_getElem? h, hs⟩

set_option maxRecDepth 100000 in
set_option maxHeartbeats 800000 in
theorem l3Has_any (A B : Option Addr) (c d : Nat) (F : List (List Int)) (s : List Int) (w : World) (ha : ISS w A F) (hb : IL w B s) (hl : F.length ≤ 1048576) (hs : Short F 1048576) (hls : s.length ≤ 1048576) :
    Calls Try.prog 120 #[.slice A F.length c, .slice B s.length d] w fun e w' => e = .returned (.bool (hasL F s)) ∧ w = w' := by
  go_enter Try.func120, Try.ntmps120
  go_wp2
  go_loop [5] (fun i => ∃ k : Nat, k ≤ F.length ∧ i = .int .i64 k ∧ Hid (hasL (F.take k) s = false)) (fun i => F.length - (intOf i).toNat)
  case atStart => exact ⟨0, Nat.zero_le _, rfl, by show _ = _; simp [hasL]⟩
  case round =>
    obtain ⟨k, hk, rfl, hnot⟩ := hrel
    by_cases hlt : k < F.length
    · obtain ⟨b, off, l, B', d', rfl, hx, hc, hil⟩ := ha.at_ hlt
      have hll := hs.at_ hx
      cases hsub : subs l s
      · have H := Lib.hid (show hasL (F.take (k + 1)) s = false by rw [hasL_take hx, hnot.out, hsub]; rfl)
        have HS := Lib.hid hsub
        clear hx hnot hsub
        go_wp2_with fail
        refine (l1Subset_any _ _ _ _ _ _ _ hil hb hll hls).mono ?_
        rintro e w' ⟨he, rfl⟩
        rw [HS.out] at he
        subst he
        go_wp2
        go_round
        case rel => exact ⟨k + 1, by omega, by go_num, H.out⟩
        case measure => simp [intOf]; omega
      · have H := Lib.hid (hasL_mem hx hsub)
        have HS := Lib.hid hsub
        clear hx hnot hsub
        go_wp2_with fail
        refine (l1Subset_any _ _ _ _ _ _ _ hil hb hll hls).mono ?_
        rintro e w' ⟨he, rfl⟩
        rw [HS.out] at he
        subst he
        go_wp2
        go_ret
        exact ⟨ret_bool H.out.symm, rfl⟩
    · have hkl : k = F.length := by omega
      subst hkl
      have H := Lib.hid (show hasL F s = false by have := hnot.out; rwa [List.take_length] at this)
      clear hnot
      go_wp2
      go_ret
      exact ⟨ret_bool H.out.symm, rfl⟩

/-- The mask of the last set that was read. -/
def lastm (F : List (List Int)) : Nat → Nat
  | 0 => 0
  | k + 1 => msk (F.getD k [])
/-- The first k sets have passed the test. -/
def FS (F : List (List Int)) (k : Nat) : Prop :=
  allV (F.take k) ∧ (∀ q ∈ msks (F.take k), q ≤ lastm F k) ∧ fv (msks (F.take k)) (lastm F k) (F.drop k) = fv [] 0 F
theorem FS.zero (F : List (List Int)) : FS F 0 := ⟨by simp [allV], by simp [msks], by simp [msks, lastm]⟩
theorem drop_l {F : List (List Int)} {k : Nat} {l : List Int} (h : F[k]? = some l) : F.drop k = l :: F.drop (k + 1) := by
  have hj : k < F.length := (List.getElem?_eq_some_iff.1 h).1
  rw [List.drop_eq_getElem_cons hj]; congr 1; exact Option.some.inj ((List.getElem?_eq_getElem hj).symm.trans h)
theorem take_l {F : List (List Int)} {k : Nat} {l : List Int} (h : F[k]? = some l) : F.take (k + 1) = F.take k ++ [l] := by simp [List.take_add_one, h]
theorem FS.bad {F : List (List Int)} {k : Nat} {l : List Int} (h : FS F k) (hx : F[k]? = some l) (hb : vld l = false ∨ msk l ≤ lastm F k ∨ hasQ (msks (F.take k)) (msk l) = true) : famOk F = false := by
  have h3 := h.2.2
  rw [drop_l hx, fv] at h3
  unfold famOk
  rw [← h3]
  rcases hb with hb | hb | hb
  · simp [hb]
  · simp [show ¬ lastm F k < msk l by omega]
  · simp [hb]
theorem FS.step {F : List (List Int)} {k : Nat} {l : List Int} (h : FS F k) (hx : F[k]? = some l) (h1 : vld l = true) (h2 : lastm F k < msk l) (h3 : hasQ (msks (F.take k)) (msk l) = false) : FS F (k + 1) := by
  have hlast : lastm F (k + 1) = msk l := by simp [lastm, hx]
  have hm : msks (F.take (k + 1)) = msks (F.take k) ++ [msk l] := by rw [take_l hx]; simp [msks]
  refine ⟨?_, ?_, ?_⟩
  · rw [take_l hx]
    intro a ha
    rcases List.mem_append.1 ha with h5 | h5
    · exact h.1 a h5
    · simp at h5; subst h5; exact h1
  · rw [hm, hlast]
    intro q hq
    rcases List.mem_append.1 hq with h5 | h5
    · have := h.2.1 q h5; omega
    · simp at h5; omega
  · have h4 := h.2.2
    rw [drop_l hx, fv, h1, h3] at h4
    rw [hm, hlast, ← h4]
    simp [h2]
theorem FS.end_ {F : List (List Int)} (h : FS F F.length) : famOk F = decide ((F.length : Int) ≤ 20) := by
  have := h.2.2
  rw [List.drop_length, fv] at this
  rw [famOk, ← this, Bool.and_true]
  exact decide_eq_decide.2 (by omega)
theorem msk_pos {l : List Int} (h : vld l = true) (hl : l.length ≠ 0) : 0 < msk l :=
  all_of (P := fun l => l.length ≠ 0 → 0 < msk l) (by decide +kernel) h hl
theorem msk_nil {l : List Int} (hl : l.length = 0) : msk l = 0 := by
  obtain rfl := List.eq_nil_of_length_eq_zero hl
  rfl
theorem FS.at_ {F : List (List Int)} {k j : Nat} {l m : List Int} (h : FS F k) (hj : j < k) (hm : F[j]? = some m) (h1 : vld l = true) (h2 : lastm F k < msk l) : vld m = true ∧ subs l m = false := by
  have hmt : m ∈ F.take k := List.mem_of_getElem? (i := j) (by rw [List.getElem?_take_of_lt hj]; exact hm)
  have hv := h.1 m hmt
  refine ⟨hv, ?_⟩
  rw [subs_sub h1 hv, Bool.eq_false_iff]
  intro hs
  have := sub_le (msk_lt h1) (msk_lt hv) hs
  have := h.2.1 (msk m) (List.mem_map.2 ⟨m, hmt, rfl⟩)
  omega
theorem hasQ_take {F : List (List Int)} {j : Nat} {l m : List Int} (hm : F[j]? = some m) (hv : vld m = true) (h1 : vld l = true) : hasQ (msks (F.take (j + 1))) (msk l) = (hasQ (msks (F.take j)) (msk l) || subs m l) := by
  rw [take_l hm, subs_sub hv h1]
  simp [msks, hasQ]
theorem hasQ_more {F : List (List Int)} {j k : Nat} {s : Nat} (hj : j ≤ k) (h : hasQ (msks (F.take j)) s = true) : hasQ (msks (F.take k)) s = true := by
  obtain ⟨q, hq, hs⟩ := mem_hasQ.1 h
  refine mem_hasQ.2 ⟨q, ?_, hs⟩
  obtain ⟨a, ha, rfl⟩ := List.mem_map.1 hq
  refine List.mem_map.2 ⟨a, ?_, rfl⟩
  rw [show F.take j = (F.take k).take j by rw [List.take_take, Nat.min_eq_left hj]] at ha
  exact List.mem_of_mem_take ha

end Go.Proofs.Ytbkdhjmfphhhoaa

/- The reference model's test of a quorum system, by its contract. -/
namespace Go.Proofs.Ytbkdhjmfphhhoaa
open Go.RowKit

set_option maxRecDepth 100000 in
set_option maxHeartbeats 400000 in
theorem specFam_any (A : Option Addr) (c : Nat) (F : List (List Int)) (w : World) (ha : ISS w A F) (hl : F.length ≤ 1048576) (hs : Short F 1048576) :
    Calls Try.prog 104 #[.slice A F.length c] w fun e w' => e = .returned (.bool (famOk F)) ∧ Drew w w' := by
  go_enter Try.func104, Try.ntmps104
  go_wp2
  go_loopw [3] (fun i wr => ∃ k : Nat, k ≤ F.length ∧ i = .int .i64 k ∧ Hid (FS F k) ∧ Drew w wr) (fun i _ => F.length - (intOf i).toNat)
  case atStart => exact ⟨0, Nat.zero_le _, rfl, FS.zero F, Drew.refl _⟩
  case round =>
    obtain ⟨k, hk, rfl, hfs, hd⟩ := hrel
    by_cases hlt : k < F.length
    · have haw := ha.below hd.below
      obtain ⟨b, off, l, B, d, hA, hx, hc, hil⟩ := haw.at_ hlt
      have hll := hs.at_ hx
      have HX := Lib.hid hx
      clear hx
      have hki : (0 : Int) ≤ (k : Int) := by omega
      have hki2 : (k : Int) < (F.length : Int) := by omega
      have EV : ∀ n, Calls Try.prog 25 #[.slice B l.length d] (wr.drewN n) fun e w' => e = .returned (.bool (vld l)) ∧ ∃ m, w' = (wr.drewN n).drewN m :=
        fun n => specValid_drew B d l _ (hil.drew n) hll
      cases hv : vld l
      · rw [hv] at EV
        have H := Lib.hid (hfs.out.bad HX.out (.inl hv))
        subst hA
        clear hv hfs
        go_wp2
        go_quiet ((go_at_call 25; exact Calls.quiet_of (EV _)))
        go_wp2
        go_ret
        exact ⟨ret_bool H.out.symm, hd.more _⟩
      · rw [hv] at EV
        have HV := Lib.hid hv
        clear hv
        by_cases h0 : l.length = 0
        · have H := Lib.hid (hfs.out.bad HX.out (.inr (.inl (by rw [msk_nil h0]; exact Nat.zero_le _))))
          have h0b : ((l.length : Int) == 0) = true := by simp [h0]
          subst hA
          clear hfs h0
          go_wp2
          go_quiet ((go_at_call 25; exact Calls.quiet_of (EV _)))
          go_wp2
          go_ret
          exact ⟨ret_bool H.out.symm, hd.more _⟩
        · have h0b : ((l.length : Int) == 0) = false := beq_eq_false_iff_ne.2 (by omega)
          have HP := Lib.hid (msk_pos HV.out h0)
          clear h0
          have EM : ∀ n, Calls Try.prog 136 #[.slice B l.length d] (wr.drewN n) fun e w' => e = .returned (.int .i64 (msk l)) ∧ wr.drewN n = w' :=
            fun n => l1Mask_any B d l _ (hil.drew n) HV.out
          have hml := msk_lt HV.out
          rcases Nat.eq_zero_or_pos k with hk0 | hk0
          · have hkd : decide (0 < k) = false := by simp; omega
            have HK := Lib.hid hk0
            subst hA
            have HF := Lib.hid (show FS F (k + 1) by
              have := HK.out
              subst this
              exact hfs.out.step HX.out HV.out HP.out (by simp [msks, hasQ]))
            clear hk0 hfs
            go_wp2
            go_quiet ((go_at_call 25; exact Calls.quiet_of (EV _)))
            go_wp2
            go_loopw [4] (fun i wq => i = .int .i64 0 ∧ wq = wr.drewN nq) (fun _ _ => 0)
            case atStart => exact ⟨rfl, rfl⟩
            case round =>
              obtain ⟨rfl, rfl⟩ := hrel
              have hk00 : ¬ (0 : Int) < (k : Int) := by have := HK.out; omega
              go_wp2
              go_roundw
              case rel => exact ⟨k + 1, by omega, by go_num, HF.out, hd.more _⟩
              case measure => simp [intOf]; omega
          · obtain ⟨j, rfl⟩ : ∃ j, k = j + 1 := ⟨k - 1, by omega⟩
            obtain ⟨b2, off2, m, B2, d2, hA2, hx2, hc2, hil2⟩ := haw.at_ (k := j) (by omega)
            subst hA
            obtain ⟨rfl, rfl⟩ : b = b2 ∧ off = off2 := by injection hA2 with h; injection h with h1 h2; exact ⟨h1, h2⟩
            have hvm : vld m = true := hfs.out.1 m (List.mem_of_getElem? (i := j) (by rw [List.getElem?_take_of_lt (by omega)]; exact hx2))
            have EM2 : ∀ n, Calls Try.prog 136 #[.slice B2 m.length d2] (wr.drewN n) fun e w' => e = .returned (.int .i64 (msk m)) ∧ wr.drewN n = w' :=
              fun n => l1Mask_any B2 d2 m _ (hil2.drew n) hvm
            have HLM := Lib.hid (show lastm F (j + 1) = msk m by simp [lastm, hx2])
            have hmm := msk_lt hvm
            clear hA2 hx2 hvm
            have hj0 : (0 : Int) ≤ (j : Int) := by omega
            have hj1 : (j : Int) < (F.length : Int) := by omega
            by_cases hlm : msk m < msk l
            · go_wp2
              go_quiet (first
                | (go_at_call 25; exact Calls.quiet_of (EV _))
                | (go_at_call_of 136 B2; exact quiet_same (EM2 _))
                | (go_at_call_of 136 B; exact quiet_same (EM _))
                | fail)
              go_wp2
              have HLT := Lib.hid (show lastm F (j + 1) < msk l by rw [HLM.out]; exact hlm)
              have hbl := hd.more nq
              generalize wr.drewN nq = ws at *
              clear EV EM EM2 hil hil2 hc hc2 haw hd
              go_loopw [4] (fun i wq => ∃ i' : Nat, i' ≤ j + 1 ∧ i = .int .i64 i' ∧ Hid (hasQ (msks (F.take i')) (msk l) = false) ∧ Drew w wq) (fun i _ => j + 1 - (intOf i).toNat)
              case atStart => exact ⟨0, Nat.zero_le _, rfl, by show _ = _; simp [msks, hasQ], hbl⟩
              case round =>
                clear hbl
                obtain ⟨i, hi, rfl, hq, hdq⟩ := hrel
                by_cases hlt2 : i < j + 1
                · have haq := ha.below hdq.below
                  obtain ⟨b3, off3, l3, B, d, hA3, hx3, hc3, hil3⟩ := haq.at_ hlt
                  obtain ⟨b4, off4, m4, B4, d4, hA4, hx4, hc4, hil4⟩ := haq.at_ (k := i) (by omega)
                  obtain ⟨rfl, rfl⟩ : b = b3 ∧ off = off3 := by injection hA3 with h; injection h with h1 h2; exact ⟨h1, h2⟩
                  obtain ⟨rfl, rfl⟩ : b = b4 ∧ off = off4 := by injection hA4 with h; injection h with h1 h2; exact ⟨h1, h2⟩
                  obtain rfl : l = l3 := by have := HX.out; rw [this] at hx3; injection hx3
                  have hl4 := hs.at_ hx4
                  have HM := Lib.hid (hfs.out.at_ hlt2 hx4 HV.out HLT.out)
                  have HX4 := Lib.hid hx4
                  clear hA3 hA4 hx3 hx4 haq
                  have hi0 : (0 : Int) ≤ (i : Int) := by omega
                  have hi1 : (i : Int) < (F.length : Int) := by omega
                  have ES1 : ∀ n, Calls Try.prog 137 #[.slice B4 m4.length d4, .slice B l.length d] (wr.drewN n) fun e w' => e = .returned (.bool (subs m4 l)) ∧ wr.drewN n = w' :=
                    fun n => l1Subset_any _ _ _ _ _ _ _ (hil4.drew n) (hil3.drew n) hl4 hll
                  have ES2 : ∀ n, Calls Try.prog 137 #[.slice B l.length d, .slice B4 m4.length d4] (wr.drewN n) fun e w' => e = .returned (.bool (subs l m4)) ∧ wr.drewN n = w' :=
                    fun n => l1Subset_any _ _ _ _ _ _ _ (hil3.drew n) (hil4.drew n) hll hl4
                  rw [HM.out.2] at ES2
                  cases hsub : subs m4 l
                  · rw [hsub] at ES1
                    have HQ := Lib.hid (show hasQ (msks (F.take (i + 1))) (msk l) = false by rw [hasQ_take HX4.out HM.out.1 HV.out, hq.out, hsub]; rfl)
                    clear hsub hq
                    go_wp2
                    go_quiet (first
                      | (go_at_call_of 137 #[Value.slice B4 m4.length d4, Value.slice B l.length d]; exact quiet_same (ES1 _))
                      | (go_at_call_of 137 #[Value.slice B l.length d, Value.slice B4 m4.length d4]; exact quiet_same (ES2 _))
                      | fail)
                    go_wp2
                    go_roundw
                    case rel => exact ⟨i + 1, by omega, by go_num, HQ.out, hdq.more _⟩
                    case measure => simp [intOf]; omega
                  · rw [hsub] at ES1
                    have H := Lib.hid (hfs.out.bad HX.out (.inr (.inr (hasQ_more (j := i + 1) (by omega) (by rw [hasQ_take HX4.out HM.out.1 HV.out, hsub]; simp)))))
                    clear hsub hq
                    go_wp2
                    go_quiet (first
                      | (go_at_call_of 137 #[Value.slice B4 m4.length d4, Value.slice B l.length d]; exact quiet_same (ES1 _))
                      | fail)
                    go_wp2
                    go_ret
                    exact ⟨ret_bool H.out.symm, hdq.more _⟩
                · have hij : i = j + 1 := by omega
                  subst hij
                  have HF := Lib.hid (hfs.out.step HX.out HV.out HLT.out hq.out)
                  clear hq hfs
                  go_wp2
                  go_roundw
                  case rel => exact ⟨j + 1 + 1, by omega, by go_num, HF.out, hdq⟩
                  case measure => simp [intOf]; omega
            · have H := Lib.hid (hfs.out.bad HX.out (.inr (.inl (by rw [HLM.out]; omega))))
              clear hfs
              go_wp2
              go_quiet (first
                | (go_at_call 25; exact Calls.quiet_of (EV _))
                | (go_at_call_of 136 B2; exact quiet_same (EM2 _))
                | (go_at_call_of 136 B; exact quiet_same (EM _))
                | fail)
              go_wp2
              go_ret
              exact ⟨ret_bool H.out.symm, hd.more _⟩
    · have hkl : k = F.length := by omega
      subst hkl
      have H := Lib.hid hfs.out.end_
      clear hfs
      go_wp2
      go_ret
      exact ⟨ret_bool H.out.symm, hd⟩
end Go.Proofs.Ytbkdhjmfphhhoaa

/- The program's quorum systems: reading, testing, and asking for a quorum, by their contracts. -/
namespace Go.Proofs.Ytbkdhjmfphhhoaa
open Go.RowKit

/-- Masks as bytes. -/
def ubs (K : List Nat) : List Value := K.map fun (m : Nat) => Value.int .u8 (m : Int)
theorem ubs_len (K : List Nat) : (ubs K).length = K.length := by simp [ubs]
theorem ubs_snoc (K : List Nat) (m : Nat) : ubs (K ++ [m]) = ubs K ++ [.int .u8 (m : Int)] := by simp [ubs]
theorem bits_info : (Try.prog.info? 140).map (fun i => (i.zero, i.size, i.bytes)) = some (some (.int .u8 0), 1, 1) := by kernel_rfl

/-- The slice at A reads as the masks K. -/
def IB (w : World) (A : Option Addr) (K : List Nat) : Prop :=
  K = [] ∨ ∃ b off, A = some ⟨b, off, none⟩ ∧ b < w.heap.size ∧ ∀ (j : Nat) m, K[j]? = some m → w.cell? ⟨b, off + j, none⟩ = some (.int .u8 (m : Int))
theorem IB.at_ {w : World} {A : Option Addr} {K : List Nat} {k : Nat} (h : IB w A K) (hk : k < K.length) :
    ∃ b off m, A = some ⟨b, off, none⟩ ∧ K[k]? = some m ∧ w.cell? ⟨b, off + k, none⟩ = some (.int .u8 (m : Int)) := by
  rcases h with rfl | ⟨b, off, rfl, _, hc⟩
  · simp at hk
  · exact ⟨b, off, K[k], rfl, List.getElem?_eq_getElem hk, hc k _ (List.getElem?_eq_getElem hk)⟩
theorem IB.below {w w' : World} {A : Option Addr} {K : List Nat} (h : IB w A K) (hb : Below w.heap.size w w') : IB w' A K := by
  rcases h with rfl | ⟨b, off, rfl, hlt, hc⟩
  · exact .inl rfl
  · exact .inr ⟨b, off, rfl, Nat.lt_of_lt_of_le hlt hb.size, fun j x hx => (hb.cell (p := ⟨b, off + j, none⟩) hlt).trans (hc j x hx)⟩
theorem IB.of_own {w : World} {base : Nat} {e : TypeId} {A : Option Addr} {n c : Nat} {K : List Nat} (h : w.ownsRow base e 1 (.slice A n c) n (ubs K)) : IB w A K ∧ n = K.length := by
  have hn : n = K.length := by have := h.1; rw [ubs_len] at this; omega
  refine ⟨?_, hn⟩
  rcases h.2 with ⟨_, h0⟩ | ⟨g, cap, cur, hv, hb, hg, _, _, _, ht⟩
  · left; exact List.eq_nil_of_length_eq_zero (by omega)
  · right
    injection hv with hA
    subst hA
    refine ⟨g, 0, rfl, (Array.getElem?_eq_some_iff.1 hg).1, fun j x hx => ?_⟩
    have := h.cells (g := g) rfl j (.int .u8 x) (by simp [ubs, hx])
    rw [Addr.add_lit] at this
    exact this
theorem hasQ_step {K : List Nat} {k m s : Nat} (h : K[k]? = some m) : hasQ (K.take (k + 1)) s = (hasQ (K.take k) s || sub m s) := by
  simp [hasQ, List.take_add_one, h]

set_option maxRecDepth 100000 in
set_option maxHeartbeats 800000 in
theorem hasQuorum_any (A : Option Addr) (c : Nat) (K : List Nat) (s : Nat) (w : World) (ha : IB w A K) (hl : K.length ≤ 1048576) (hK : Msk K) (hs : s < 64) :
    Calls Try.prog 114 #[.slice A K.length c, .int .u8 s] w fun e w' => e = .returned (.bool (hasQ K s)) ∧ w = w' := by
  go_enter Try.func114, Try.ntmps114
  go_wp2
  go_loop [9] (fun i => ∃ k : Nat, k ≤ K.length ∧ i = .int .i64 k ∧ Hid (hasQ (K.take k) s = false)) (fun i => K.length - (intOf i).toNat)
  case atStart => exact ⟨0, Nat.zero_le _, rfl, by show _ = _; simp [hasQ]⟩
  case round =>
    obtain ⟨k, hk, rfl, hnot⟩ := hrel
    by_cases hlt : k < K.length
    · obtain ⟨b, off, m, rfl, hx, hc⟩ := ha.at_ hlt
      have hm := hK m (List.mem_of_getElem? hx)
      cases hsub : sub m s
      · have H := Lib.hid (show hasQ (K.take (k + 1)) s = false by rw [hasQ_step hx, hnot.out, hsub]; rfl)
        have HS := Lib.hid (show (andNot m s == 0) = false from hsub)
        clear hx hnot hsub
        go_wp2_with fail
        refine (subsetOf_bits _ _ _ hm hs).mono ?_
        rintro e w' ⟨he, rfl⟩
        rw [HS.out] at he
        subst he
        go_wp2
        go_round
        case rel => exact ⟨k + 1, by omega, by go_num, H.out⟩
        case measure => simp [intOf]; omega
      · have H := Lib.hid (show hasQ K s = true from mem_hasQ.2 ⟨m, List.mem_of_getElem? hx, hsub⟩)
        have HS := Lib.hid (show (andNot m s == 0) = true from hsub)
        clear hx hnot hsub
        go_wp2_with fail
        refine (subsetOf_bits _ _ _ hm hs).mono ?_
        rintro e w' ⟨he, rfl⟩
        rw [HS.out] at he
        subst he
        go_wp2
        go_ret
        exact ⟨ret_bool H.out.symm, rfl⟩
    · have hkl : k = K.length := by omega
      subst hkl
      have H := Lib.hid (show hasQ K s = false by have := hnot.out; rwa [List.take_length] at this)
      clear hnot
      go_wp2
      go_ret
      exact ⟨ret_bool H.out.symm, rfl⟩

theorem app_gen {w wr w1 : World} {base : Nat} {e : TypeId} {v : Value} {o : Obj} {n : Nat} {xs : List Value} (hown : wr.ownsRow base e 1 v n xs) (hbase : w.heap.size ≤ base) (hb : Below w.heap.size w wr) (hg : (wr.alloc o).grownBy w1 v.ownBlock) : Below w.heap.size w w1 :=
  (hb.alloc hb.size o).grown hg (by have := hb.size; simp; omega) (fun k hk => Nat.le_trans hbase (hown.lt k hk).1)
theorem msks_take {F : List (List Int)} {k : Nat} {l : List Int} (h : F[k]? = some l) : msks (F.take (k + 1)) = msks (F.take k) ++ [msk l] := by rw [take_l h]; simp [msks]
theorem lastm_lt {F : List (List Int)} {k : Nat} (h : FS F k) (hk : k ≤ F.length) : lastm F k < 64 := by
  cases k with
  | zero => simp [lastm]
  | succ k =>
    have hx : F[k]? = some F[k] := List.getElem?_eq_getElem (by omega)
    have : lastm F (k + 1) = msk F[k] := by simp [lastm, hx]
    rw [this]
    exact msk_lt (h.1 _ (List.mem_of_getElem? (i := k) (by rw [List.getElem?_take_of_lt (by omega)]; exact hx)))

/-- What the reading of a quorum system hands back. -/
def FamOf (w : World) (F : List (List Int)) (e : Ending) (w' : World) : Prop :=
  Below w.heap.size w w' ∧ ((famOk F = false ∧ e = .returned (.tuple #[.slice none 0 0, .bool false])) ∨
    (famOk F = true ∧ ∃ A c, e = .returned (.tuple #[.slice A (msks F).length c, .bool true]) ∧ w'.ownsRow w.heap.size 140 1 (.slice A (msks F).length c) (msks F).length (ubs (msks F))))
theorem u8_le (a b : Nat) : ((a : Int) ≤ (b : Int)) ↔ a ≤ b := by omega

set_option maxRecDepth 100000 in
set_option maxHeartbeats 600000 in
theorem familyOf_any (A : Option Addr) (c : Nat) (F : List (List Int)) (w : World) (ha : ISS w A F) (hl : F.length ≤ 1048576) (hs : Short F 1048576) :
    Calls Try.prog 159 #[.slice A F.length c] w (FamOf w F) := by
  obtain ⟨i0, hi0, hz0, hz1, hz2⟩ := info_parts bits_info
  by_cases h20 : F.length ≤ 20
  · go_enter Try.func159, Try.ntmps159
    go_wp2
    go_loopw [4, 5, 15] (fun v q i wr => ∃ k : Nat, k ≤ F.length ∧ i = .int .i64 k ∧ q = .int .u8 (lastm F k : Nat) ∧ Hid (FS F k) ∧ wr.ownsRow w.heap.size 140 1 v (msks (F.take k)).length (ubs (msks (F.take k))) ∧ Below w.heap.size w wr) (fun _ _ i _ => F.length - (intOf i).toNat)
    case atStart => exact ⟨0, Nat.zero_le _, rfl, rfl, FS.zero F, (by simpa [msks, ubs] using World.ownsRow_nil _ _ _ _), Below.refl _ _⟩
    case round =>
      obtain ⟨k, hk, rfl, rfl, hfs, hown, hbel⟩ := hrel
      have hlast := lastm_lt hfs.out hk
      by_cases hlt : k < F.length
      · obtain ⟨b, off, l, B, d, rfl, hx, hc, hil⟩ := (ha.below hbel).at_ hlt
        have hll := hs.at_ hx
        have HX := Lib.hid hx
        clear hx
        cases hv : vld l
        · have H := Lib.hid (hfs.out.bad HX.out (.inl hv))
          have HV := Lib.hid hv
          clear hv hfs hown
          go_wp2_with fail
          refine (bitsOf_no _ _ _ _ hil HV.out hll).mono ?_
          rintro e w' ⟨rfl, rfl⟩
          go_wp2
          go_ret2
          exact ⟨hbel, .inl ⟨H.out, rfl⟩⟩
        · have HV := Lib.hid hv
          have hm := msk_lt hv
          clear hv
          by_cases hle : msk l ≤ lastm F k
          · have H := Lib.hid (hfs.out.bad HX.out (.inr (.inl hle)))
            have hle' : ((msk l : Nat) : Int) ≤ ((lastm F k : Nat) : Int) := by omega
            clear hfs hown hle
            go_wp2_with fail
            refine (bitsOf_yes _ _ _ _ hil HV.out).mono ?_
            rintro e w' ⟨rfl, rfl⟩
            go_wp2
            go_ret2
            exact ⟨hbel, .inl ⟨H.out, rfl⟩⟩
          · have hle' : ¬ ((msk l : Nat) : Int) ≤ ((lastm F k : Nat) : Int) := by omega
            have hKm : Msk (msks (F.take k)) := msks_msk hfs.out.1
            have hKl : (msks (F.take k)).length ≤ 20 := by simp [msks]; omega
            obtain ⟨A', c', rfl⟩ := own_slice hown
            have hib := (IB.of_own hown).1
            have HLE := Lib.hid (show lastm F k < msk l by omega)
            clear hle
            cases hq : hasQ (msks (F.take k)) (msk l)
            · have HF := Lib.hid (hfs.out.step HX.out HV.out HLE.out hq)
              have HQ := Lib.hid hq
              have HM := Lib.hid (msks_take HX.out)
              have HLL := Lib.hid (show lastm F (k + 1) = msk l by have := HX.out; simp [lastm, this])
              clear hq hfs
              go_wp2_with fail
              refine (bitsOf_yes _ _ _ _ hil HV.out).mono ?_
              rintro e w' ⟨rfl, rfl⟩
              go_wp2_with fail
              refine (hasQuorum_any _ _ _ _ _ hib (by omega) hKm hm).mono ?_
              rintro e w' ⟨he, rfl⟩
              rw [HQ.out] at he
              subst he
              go_wp2_with (at_builtin; refine wpList_append_own _ rfl (.tmp 36) (.tmp 38) 136 rfl w.heap.size 140 i0 (.int .u8 0) 1 1 Try.underlying136 hi0 hz0 hz1 hz2 rfl (by decide) _ _ _ rfl (hown.alloc _) ⟨wr.heap.size, 0, none⟩ 1 1 [.int .u8 (msk l : Nat)] rfl rfl (cell_one_new _ _ _) (ints_oneCell .u8 [((msk l : Nat) : Int)]) (by unfold maxLen; omega) (by omega) (by have := hbel.size; simp; omega) ?_)
              intro v' w1 hown' hgrow _
              have R := Lib.hid (show w1.ownsRow w.heap.size 140 1 v' (msks (F.take (k + 1))).length (ubs (msks (F.take (k + 1)))) ∧ Below w.heap.size w w1 by
                refine ⟨?_, app_gen hown (Nat.le_refl _) hbel hgrow⟩
                rw [HM.out, ubs_snoc]
                simpa using hown')
              clear hown hown' hgrow hbel hib
              go_wp2
              go_roundw
              case rel => exact ⟨k + 1, by omega, by go_num, by rw [HLL.out], HF.out, R.out.1, R.out.2⟩
              case measure => simp [intOf]; omega
            · have H := Lib.hid (hfs.out.bad HX.out (.inr (.inr hq)))
              have HQ := Lib.hid hq
              clear hq hfs
              go_wp2_with fail
              refine (bitsOf_yes _ _ _ _ hil HV.out).mono ?_
              rintro e w' ⟨rfl, rfl⟩
              go_wp2_with fail
              refine (hasQuorum_any _ _ _ _ _ hib (by omega) hKm hm).mono ?_
              rintro e w' ⟨he, rfl⟩
              rw [HQ.out] at he
              subst he
              go_wp2
              go_ret2
              exact ⟨hbel, .inl ⟨H.out, rfl⟩⟩
      · have hkl : k = F.length := by omega
        subst hkl
        have H := Lib.hid (show famOk F = true by rw [hfs.out.end_]; simp; omega)
        rw [List.take_length] at hown
        obtain ⟨A', c', rfl⟩ := own_slice hown
        have HO := Lib.hid hown
        clear hfs hown
        go_wp2
        go_ret2
        exact ⟨hbel, .inr ⟨H.out, A', c', rfl, HO.out⟩⟩
  · have H := Lib.hid (show famOk F = false by simp [famOk, h20])
    go_enter Try.func159, Try.ntmps159
    go_wp2
    go_ret2
    exact ⟨Below.refl _ _, .inl ⟨H.out, rfl⟩⟩

def hasQR (F : List (List Int)) (s : List Int) : Bool := famOk F && vld s && hasL F s

end Go.Proofs.Ytbkdhjmfphhhoaa

/- The program's heap of sets: its methods, by their contracts. -/
namespace Go.Proofs.Ytbkdhjmfphhhoaa
open Go.RowKit

section
variable {w w' : World} {p g c : Nat} {a : List Nat}
theorem ubs_set (a : List Nat) (i m : Nat) : (ubs a).set i (.int .u8 (m : Int)) = ubs (a.set i m) := by simp [ubs, List.map_set]
end
/-- Only block p and block g have been written. -/
structure Two (p g : Nat) (w w' : World) : Prop where
  os : w'.os = w.os
  tape : w'.tape = w.tape
  output : w'.output = w.output
  size : w.heap.size = w'.heap.size
  block : ∀ i, i ≠ p → i ≠ g → w'.heap[i]? = w.heap[i]?
theorem Two.refl (p g : Nat) (w : World) : Two p g w w := ⟨rfl, rfl, rfl, rfl, fun _ _ _ => rfl⟩
theorem Two.trans {p g : Nat} {a b c : World} (h : Two p g a b) (k : Two p g b c) : Two p g a c :=
  ⟨k.os.trans h.os, k.tape.trans h.tape, k.output.trans h.output, h.size.trans k.size, fun i h1 h2 => (k.block i h1 h2).trans (h.block i h1 h2)⟩
theorem Two.drew {p g : Nat} {a b : World} (h : Two p g a b) (n : Nat) : Two p g a (b.drewN n) := ⟨h.os, h.tape, h.output, h.size, h.block⟩
theorem Two.drw {p g : Nat} {a b c : World} (h : Two p g a b) (hd : Drew b c) : Two p g a c := by obtain ⟨n, rfl⟩ := hd; exact h.drew n
theorem Two.setG {p g : Nat} {a b : World} (h : Two p g a b) (i : Nat) (v : Value) : Two p g a (b.setCell ⟨g, i, none⟩ v) :=
  ⟨h.os, h.tape, h.output, by rw [h.size]; simp [World.setCell], fun k h1 h2 => (Below.heap_setCell b ⟨g, i, none⟩ v k h2).trans (h.block k h1 h2)⟩
theorem Two.setP {p g : Nat} {a b : World} (h : Two p g a b) (i : Nat) (v : Value) : Two p g a (b.setCell ⟨p, i, none⟩ v) :=
  ⟨h.os, h.tape, h.output, by rw [h.size]; simp [World.setCell], fun k h1 h2 => (Below.heap_setCell b ⟨p, i, none⟩ v k h1).trans (h.block k h1 h2)⟩

theorem take_ubs (a : List Nat) (n : Nat) : (ubs a).take n = ubs (a.take n) := by simp [ubs, List.map_take]
end Go.Proofs.Ytbkdhjmfphhhoaa

/- The library's heap functions over the program's heap of sets, by their contracts. -/
namespace Go.Proofs.Ytbkdhjmfphhhoaa
open Go.RowKit

theorem ta_bits (x : Int) (w : World) : (Instr.typeAssert (.iface 140 (.int .u8 x)) 20 140 true).run Try.prog w = .ok (.tuple #[.int .u8 x, .bool true]) w := by kernel_rfl

theorem Two.below {p g lo : Nat} {w w' : World} (h : Two p g w w') (hp : lo ≤ p) (hg : lo ≤ g) : Below lo w w' :=
  ⟨h.os, h.tape, h.output, Nat.le_of_eq h.size, fun k hk => h.block k (by omega) (by omega)⟩
theorem below_below {lo : Nat} {a b c : World} (h : Below lo a b) (k : Below lo b c) : Below lo a c := h.trans k
end Go.Proofs.Ytbkdhjmfphhhoaa

namespace Go.Proofs.Ytbkdhjmfphhhoaa
open Go.RowKit

theorem app_low {lo : Nat} {w1 w2 : World} {o : Obj} {base n : Nat} {e : TypeId} {v : Value} {xs : List Value} (hown : w1.ownsRow base e 1 v n xs) (hbase : lo ≤ base) (hlo : lo ≤ w1.heap.size) (hg : (w1.alloc o).grownBy w2 v.ownBlock) : Below lo w1 w2 :=
  ((Below.refl lo w1).alloc hlo o).grown hg (by simp; omega) (fun k hk => Nat.le_trans hbase (hown.lt k hk).1)
/-- How many sets the heap at block p holds. -/
def hlen (w : World) (p : Nat) : Nat := match w.cell? ⟨p, 0, none⟩ with | some (.slice _ n _) => n | _ => 0
/-- A family of the call's own. -/
def Fam (w : World) (lo : Nat) (K : List Nat) (e : Ending) (w' : World) : Prop :=
  ∃ A c, e = .returned (.slice A K.length c) ∧ w'.ownsRow w.heap.size 140 1 (.slice A K.length c) K.length (ubs K) ∧ Below lo w w'

end Go.Proofs.Ytbkdhjmfphhhoaa

/- The heap of sets beside other memory: which blocks its functions turn. -/
namespace Go.Proofs.Ytbkdhjmfphhhoaa
open Go.RowKit

/-- Of what lay before, only block p and block g have been written. -/
structure Fr (p g : Nat) (w w' : World) : Prop where
  os : w'.os = w.os
  tape : w'.tape = w.tape
  output : w'.output = w.output
  size : w.heap.size ≤ w'.heap.size
  block : ∀ i, i < w.heap.size → i ≠ p → i ≠ g → w'.heap[i]? = w.heap[i]?
theorem Fr.refl (p g : Nat) (w : World) : Fr p g w w := ⟨rfl, rfl, rfl, Nat.le_refl _, fun _ _ _ _ => rfl⟩
theorem Fr.trans {p g g' : Nat} {a b c : World} (h : Fr p g a b) (k : Fr p g' b c) (hg : g' = g ∨ a.heap.size ≤ g') : Fr p g a c :=
  ⟨k.os.trans h.os, k.tape.trans h.tape, k.output.trans h.output, Nat.le_trans h.size k.size, fun i h1 h2 h3 => (k.block i (Nat.lt_of_lt_of_le h1 h.size) h2 (by omega)).trans (h.block i h1 h2 h3)⟩
theorem Two.fr {p g : Nat} {w w' : World} (h : Two p g w w') : Fr p g w w' := ⟨h.os, h.tape, h.output, Nat.le_of_eq h.size, fun i _ h2 h3 => h.block i h2 h3⟩
theorem Fr.of_below {p g : Nat} {w w' : World} (h : Below w.heap.size w w') : Fr p g w w' := ⟨h.os, h.tape, h.output, h.size, fun i h1 _ _ => h.block i h1⟩
theorem Fr.below {p g lo : Nat} {w w' : World} (h : Fr p g w w') (hp : lo ≤ p) (hg : lo ≤ g) (hl : lo ≤ w.heap.size) : Below lo w w' :=
  ⟨h.os, h.tape, h.output, h.size, fun i hi => h.block i (by omega) (by omega) (by omega)⟩

/-- A family of the call's own; of the rest only the heap was written. -/
def FamF (w : World) (p g : Nat) (K : List Nat) (e : Ending) (w' : World) : Prop :=
  ∃ A c, e = .returned (.slice A K.length c) ∧ w'.ownsRow w.heap.size 140 1 (.slice A K.length c) K.length (ubs K) ∧ Fr p g w w'

theorem app_fr {B : Nat} {w1 w2 : World} {o : Obj} {n : Nat} {e : TypeId} {v : Value} {xs : List Value} (hown : w1.ownsRow B e 1 v n xs) (hB : B ≤ w1.heap.size) (hg : (w1.alloc o).grownBy w2 v.ownBlock) : Below B w1 w2 :=
  ⟨hg.os, hg.tape, hg.output, by have := hg.size; simp at this; omega, fun i h1 => by
    rw [hg.block i (by simp; omega) (fun e => by have := (hown.lt i e.symm).1; omega), Below.heap_alloc w1 _ i (by omega)]⟩
theorem Fr.then_ {p g : Nat} {a b c : World} (h : Fr p g a b) (k : Below a.heap.size b c) : Fr p g a c :=
  ⟨k.os.trans h.os, k.tape.trans h.tape, k.output.trans h.output, Nat.le_trans h.size k.size, fun i h1 h2 h3 => (k.block i h1).trans (h.block i h1 h2 h3)⟩

end Go.Proofs.Ytbkdhjmfphhhoaa
