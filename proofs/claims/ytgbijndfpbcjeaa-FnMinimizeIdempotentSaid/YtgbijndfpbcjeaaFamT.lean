/- The reference model's test of a quorum system, by its contract. -/
import Derived.Test.YtgbijndfpbcjeaaFamS
import Derived.Deep.RegionWith
namespace Go.Proofs.Ytgbijndfpbcjeaa
open Go.RowKit

set_option maxRecDepth 100000 in
set_option maxHeartbeats 400000 in
theorem specFam_any (A : Option Addr) (c : Nat) (F : List (List Int)) (w : World) (ha : ISS w A F) (hl : F.length ≤ 1048576) (hs : Short F 1048576) :
    Calls Try.prog 29 #[.slice A F.length c] w fun e w' => e = .returned (.bool (famOk F)) ∧ Drew w w' := by
  go_enter Try.func29, Try.ntmps29
  go_wp2
  go_loopw [3] (fun i wr => ∃ k : Nat, k ≤ F.length ∧ i = .int .i64 k ∧ Hid (FS F k) ∧ Drew w wr) (fun i _ => F.length - (intOf i).toNat)
  case atStart => exact ⟨0, Nat.zero_le _, rfl, FS.zero F, Drew.refl _⟩
  case round =>
    obtain ⟨k, hk, rfl, hfs, hd⟩ := hrel
    by_cases hlt : k < F.length
    · have haw := ha.below hd.below
      obtain ⟨b, off, l, B, d, hA, hx, hc, hil⟩ := haw.at_ hlt
      have hll := hs.at_ hx
      have HX := Lib.hid hx
      clear hx
      have hki : (0 : Int) ≤ (k : Int) := by omega
      have hki2 : (k : Int) < (F.length : Int) := by omega
      have EV : ∀ n, Calls Try.prog 52 #[.slice B l.length d] (wr.drewN n) fun e w' => e = .returned (.bool (vld l)) ∧ ∃ m, w' = (wr.drewN n).drewN m :=
        fun n => specValid_drew B d l _ (hil.drew n) hll
      cases hv : vld l
      · rw [hv] at EV
        have H := Lib.hid (hfs.out.bad HX.out (.inl hv))
        subst hA
        clear hv hfs
        go_wp2
        go_quiet ((go_at_call 52; exact Calls.quiet_of (EV _)))
        go_wp2
        go_ret
        exact ⟨ret_bool H.out.symm, hd.more _⟩
      · rw [hv] at EV
        have HV := Lib.hid hv
        clear hv
        by_cases h0 : l.length = 0
        · have H := Lib.hid (hfs.out.bad HX.out (.inr (.inl (by rw [msk_nil h0]; exact Nat.zero_le _))))
          have h0b : ((l.length : Int) == 0) = true := by simp [h0]
          subst hA
          clear hfs h0
          go_wp2
          go_quiet ((go_at_call 52; exact Calls.quiet_of (EV _)))
          go_wp2
          go_ret
          exact ⟨ret_bool H.out.symm, hd.more _⟩
        · have h0b : ((l.length : Int) == 0) = false := beq_eq_false_iff_ne.2 (by omega)
          have HP := Lib.hid (msk_pos HV.out h0)
          clear h0
          have EM : ∀ n, Calls Try.prog 73 #[.slice B l.length d] (wr.drewN n) fun e w' => e = .returned (.int .i64 (msk l)) ∧ wr.drewN n = w' :=
            fun n => l1Mask_any B d l _ (hil.drew n) HV.out
          have hml := msk_lt HV.out
          rcases Nat.eq_zero_or_pos k with hk0 | hk0
          · have hkd : decide (0 < k) = false := by simp; omega
            have HK := Lib.hid hk0
            subst hA
            have HF := Lib.hid (show FS F (k + 1) by
              have := HK.out
              subst this
              exact hfs.out.step HX.out HV.out HP.out (by simp [msks, hasQ]))
            clear hk0 hfs
            go_wp2
            go_quiet ((go_at_call 52; exact Calls.quiet_of (EV _)))
            go_wp2
            go_loopw [4] (fun i wq => i = .int .i64 0 ∧ wq = wr.drewN nq) (fun _ _ => 0)
            case atStart => exact ⟨rfl, rfl⟩
            case round =>
              obtain ⟨rfl, rfl⟩ := hrel
              have hk00 : ¬ (0 : Int) < (k : Int) := by have := HK.out; omega
              go_wp2
              go_roundw
              case rel => exact ⟨k + 1, by omega, by go_num, HF.out, hd.more _⟩
              case measure => simp [intOf]; omega
          · obtain ⟨j, rfl⟩ : ∃ j, k = j + 1 := ⟨k - 1, by omega⟩
            obtain ⟨b2, off2, m, B2, d2, hA2, hx2, hc2, hil2⟩ := haw.at_ (k := j) (by omega)
            subst hA
            obtain ⟨rfl, rfl⟩ : b = b2 ∧ off = off2 := by injection hA2 with h; injection h with h1 h2; exact ⟨h1, h2⟩
            have hvm : vld m = true := hfs.out.1 m (List.mem_of_getElem? (i := j) (by rw [List.getElem?_take_of_lt (by omega)]; exact hx2))
            have EM2 : ∀ n, Calls Try.prog 73 #[.slice B2 m.length d2] (wr.drewN n) fun e w' => e = .returned (.int .i64 (msk m)) ∧ wr.drewN n = w' :=
              fun n => l1Mask_any B2 d2 m _ (hil2.drew n) hvm
            have HLM := Lib.hid (show lastm F (j + 1) = msk m by simp [lastm, hx2])
            have hmm := msk_lt hvm
            clear hA2 hx2 hvm
            have hj0 : (0 : Int) ≤ (j : Int) := by omega
            have hj1 : (j : Int) < (F.length : Int) := by omega
            by_cases hlm : msk m < msk l
            · go_wp2
              go_quiet (first
                | (go_at_call 52; exact Calls.quiet_of (EV _))
                | (go_at_call_of 73 B2; exact quiet_same (EM2 _))
                | (go_at_call_of 73 B; exact quiet_same (EM _))
                | fail)
              go_wp2
              have HLT := Lib.hid (show lastm F (j + 1) < msk l by rw [HLM.out]; exact hlm)
              have hbl := hd.more nq
              generalize wr.drewN nq = ws at *
              clear EV EM EM2 hil hil2 hc hc2 haw hd
              go_loopw [4] (fun i wq => ∃ i' : Nat, i' ≤ j + 1 ∧ i = .int .i64 i' ∧ Hid (hasQ (msks (F.take i')) (msk l) = false) ∧ Drew w wq) (fun i _ => j + 1 - (intOf i).toNat)
              case atStart => exact ⟨0, Nat.zero_le _, rfl, by show _ = _; simp [msks, hasQ], hbl⟩
              case round =>
                clear hbl
                obtain ⟨i, hi, rfl, hq, hdq⟩ := hrel
                by_cases hlt2 : i < j + 1
                · have haq := ha.below hdq.below
                  obtain ⟨b3, off3, l3, B, d, hA3, hx3, hc3, hil3⟩ := haq.at_ hlt
                  obtain ⟨b4, off4, m4, B4, d4, hA4, hx4, hc4, hil4⟩ := haq.at_ (k := i) (by omega)
                  obtain ⟨rfl, rfl⟩ : b = b3 ∧ off = off3 := by injection hA3 with h; injection h with h1 h2; exact ⟨h1, h2⟩
                  obtain ⟨rfl, rfl⟩ : b = b4 ∧ off = off4 := by injection hA4 with h; injection h with h1 h2; exact ⟨h1, h2⟩
                  obtain rfl : l = l3 := by have := HX.out; rw [this] at hx3; injection hx3
                  have hl4 := hs.at_ hx4
                  have HM := Lib.hid (hfs.out.at_ hlt2 hx4 HV.out HLT.out)
                  have HX4 := Lib.hid hx4
                  clear hA3 hA4 hx3 hx4 haq
                  have hi0 : (0 : Int) ≤ (i : Int) := by omega
                  have hi1 : (i : Int) < (F.length : Int) := by omega
                  have ES1 : ∀ n, Calls Try.prog 74 #[.slice B4 m4.length d4, .slice B l.length d] (wr.drewN n) fun e w' => e = .returned (.bool (subs m4 l)) ∧ wr.drewN n = w' :=
                    fun n => l1Subset_any _ _ _ _ _ _ _ (hil4.drew n) (hil3.drew n) hl4 hll
                  have ES2 : ∀ n, Calls Try.prog 74 #[.slice B l.length d, .slice B4 m4.length d4] (wr.drewN n) fun e w' => e = .returned (.bool (subs l m4)) ∧ wr.drewN n = w' :=
                    fun n => l1Subset_any _ _ _ _ _ _ _ (hil3.drew n) (hil4.drew n) hll hl4
                  rw [HM.out.2] at ES2
                  cases hsub : subs m4 l
                  · rw [hsub] at ES1
                    have HQ := Lib.hid (show hasQ (msks (F.take (i + 1))) (msk l) = false by rw [hasQ_take HX4.out HM.out.1 HV.out, hq.out, hsub]; rfl)
                    clear hsub hq
                    go_wp2
                    go_quiet (first
                      | (go_at_call_of 74 #[Value.slice B4 m4.length d4, Value.slice B l.length d]; exact quiet_same (ES1 _))
                      | (go_at_call_of 74 #[Value.slice B l.length d, Value.slice B4 m4.length d4]; exact quiet_same (ES2 _))
                      | fail)
                    go_wp2
                    go_roundw
                    case rel => exact ⟨i + 1, by omega, by go_num, HQ.out, hdq.more _⟩
                    case measure => simp [intOf]; omega
                  · rw [hsub] at ES1
                    have H := Lib.hid (hfs.out.bad HX.out (.inr (.inr (hasQ_more (j := i + 1) (by omega) (by rw [hasQ_take HX4.out HM.out.1 HV.out, hsub]; simp)))))
                    clear hsub hq
                    go_wp2
                    go_quiet (first
                      | (go_at_call_of 74 #[Value.slice B4 m4.length d4, Value.slice B l.length d]; exact quiet_same (ES1 _))
                      | fail)
                    go_wp2
                    go_ret
                    exact ⟨ret_bool H.out.symm, hdq.more _⟩
                · have hij : i = j + 1 := by omega
                  subst hij
                  have HF := Lib.hid (hfs.out.step HX.out HV.out HLT.out hq.out)
                  clear hq hfs
                  go_wp2
                  go_roundw
                  case rel => exact ⟨j + 1 + 1, by omega, by go_num, HF.out, hdq⟩
                  case measure => simp [intOf]; omega
            · have H := Lib.hid (hfs.out.bad HX.out (.inr (.inl (by rw [HLM.out]; omega))))
              clear hfs
              go_wp2
              go_quiet (first
                | (go_at_call 52; exact Calls.quiet_of (EV _))
                | (go_at_call_of 73 B2; exact quiet_same (EM2 _))
                | (go_at_call_of 73 B; exact quiet_same (EM _))
                | fail)
              go_wp2
              go_ret
              exact ⟨ret_bool H.out.symm, hd.more _⟩
    · have hkl : k = F.length := by omega
      subst hkl
      have H := Lib.hid hfs.out.end_
      clear hfs
      go_wp2
      go_ret
      exact ⟨ret_bool H.out.symm, hd⟩
end Go.Proofs.Ytgbijndfpbcjeaa
