/- The program's quorum systems: reading, testing, and asking for a quorum, by their contracts. -/
import Derived.Test.YtgbijndfpbcjeaaFamT
import Derived.Test.YtgbijndfpbcjeaaImpl
namespace Go.Proofs.Ytgbijndfpbcjeaa
open Go.RowKit

/-- Masks as bytes. -/
def ubs (K : List Nat) : List Value := K.map fun (m : Nat) => Value.int .u8 (m : Int)
theorem ubs_len (K : List Nat) : (ubs K).length = K.length := by simp [ubs]
theorem ubs_snoc (K : List Nat) (m : Nat) : ubs (K ++ [m]) = ubs K ++ [.int .u8 (m : Int)] := by simp [ubs]
theorem bits_info : (Try.prog.info? 59).map (fun i => (i.zero, i.size, i.bytes)) = some (some (.int .u8 0), 1, 1) := by kernel_rfl

/-- The slice at A reads as the masks K. -/
def IB (w : World) (A : Option Addr) (K : List Nat) : Prop :=
  K = [] ∨ ∃ b off, A = some ⟨b, off, none⟩ ∧ b < w.heap.size ∧ ∀ (j : Nat) m, K[j]? = some m → w.cell? ⟨b, off + j, none⟩ = some (.int .u8 (m : Int))
theorem IB.at_ {w : World} {A : Option Addr} {K : List Nat} {k : Nat} (h : IB w A K) (hk : k < K.length) :
    ∃ b off m, A = some ⟨b, off, none⟩ ∧ K[k]? = some m ∧ w.cell? ⟨b, off + k, none⟩ = some (.int .u8 (m : Int)) := by
  rcases h with rfl | ⟨b, off, rfl, _, hc⟩
  · simp at hk
  · exact ⟨b, off, K[k], rfl, List.getElem?_eq_getElem hk, hc k _ (List.getElem?_eq_getElem hk)⟩
theorem IB.below {w w' : World} {A : Option Addr} {K : List Nat} (h : IB w A K) (hb : Below w.heap.size w w') : IB w' A K := by
  rcases h with rfl | ⟨b, off, rfl, hlt, hc⟩
  · exact .inl rfl
  · exact .inr ⟨b, off, rfl, Nat.lt_of_lt_of_le hlt hb.size, fun j x hx => (hb.cell (p := ⟨b, off + j, none⟩) hlt).trans (hc j x hx)⟩
theorem IB.of_own {w : World} {base : Nat} {e : TypeId} {A : Option Addr} {n c : Nat} {K : List Nat} (h : w.ownsRow base e 1 (.slice A n c) n (ubs K)) : IB w A K ∧ n = K.length := by
  have hn : n = K.length := by have := h.1; rw [ubs_len] at this; omega
  refine ⟨?_, hn⟩
  rcases h.2 with ⟨_, h0⟩ | ⟨g, cap, cur, hv, hb, hg, _, _, _, ht⟩
  · left; exact List.eq_nil_of_length_eq_zero (by omega)
  · right
    injection hv with hA
    subst hA
    refine ⟨g, 0, rfl, (Array.getElem?_eq_some_iff.1 hg).1, fun j x hx => ?_⟩
    have := h.cells (g := g) rfl j (.int .u8 x) (by simp [ubs, hx])
    rw [Addr.add_lit] at this
    exact this
theorem hasQ_step {K : List Nat} {k m s : Nat} (h : K[k]? = some m) : hasQ (K.take (k + 1)) s = (hasQ (K.take k) s || sub m s) := by
  simp [hasQ, List.take_add_one, h]

set_option maxRecDepth 100000 in
set_option maxHeartbeats 800000 in
theorem hasQuorum_any (A : Option Addr) (c : Nat) (K : List Nat) (s : Nat) (w : World) (ha : IB w A K) (hl : K.length ≤ 1048576) (hK : Msk K) (hs : s < 64) :
    Calls Try.prog 71 #[.slice A K.length c, .int .u8 s] w fun e w' => e = .returned (.bool (hasQ K s)) ∧ w = w' := by
  go_enter Try.func71, Try.ntmps71
  go_wp2
  go_loop [9] (fun i => ∃ k : Nat, k ≤ K.length ∧ i = .int .i64 k ∧ Hid (hasQ (K.take k) s = false)) (fun i => K.length - (intOf i).toNat)
  case atStart => exact ⟨0, Nat.zero_le _, rfl, by show _ = _; simp [hasQ]⟩
  case round =>
    obtain ⟨k, hk, rfl, hnot⟩ := hrel
    by_cases hlt : k < K.length
    · obtain ⟨b, off, m, rfl, hx, hc⟩ := ha.at_ hlt
      have hm := hK m (List.mem_of_getElem? hx)
      cases hsub : sub m s
      · have H := Lib.hid (show hasQ (K.take (k + 1)) s = false by rw [hasQ_step hx, hnot.out, hsub]; rfl)
        have HS := Lib.hid (show (andNot m s == 0) = false from hsub)
        clear hx hnot hsub
        go_wp2_with fail
        refine (subsetOf_bits _ _ _ hm hs).mono ?_
        rintro e w' ⟨he, rfl⟩
        rw [HS.out] at he
        subst he
        go_wp2
        go_round
        case rel => exact ⟨k + 1, by omega, by go_num, H.out⟩
        case measure => simp [intOf]; omega
      · have H := Lib.hid (show hasQ K s = true from mem_hasQ.2 ⟨m, List.mem_of_getElem? hx, hsub⟩)
        have HS := Lib.hid (show (andNot m s == 0) = true from hsub)
        clear hx hnot hsub
        go_wp2_with fail
        refine (subsetOf_bits _ _ _ hm hs).mono ?_
        rintro e w' ⟨he, rfl⟩
        rw [HS.out] at he
        subst he
        go_wp2
        go_ret
        exact ⟨ret_bool H.out.symm, rfl⟩
    · have hkl : k = K.length := by omega
      subst hkl
      have H := Lib.hid (show hasQ K s = false by have := hnot.out; rwa [List.take_length] at this)
      clear hnot
      go_wp2
      go_ret
      exact ⟨ret_bool H.out.symm, rfl⟩

theorem app_gen {w wr w1 : World} {base : Nat} {e : TypeId} {v : Value} {o : Obj} {n : Nat} {xs : List Value} (hown : wr.ownsRow base e 1 v n xs) (hbase : w.heap.size ≤ base) (hb : Below w.heap.size w wr) (hg : (wr.alloc o).grownBy w1 v.ownBlock) : Below w.heap.size w w1 :=
  (hb.alloc hb.size o).grown hg (by have := hb.size; simp; omega) (fun k hk => Nat.le_trans hbase (hown.lt k hk).1)
theorem msks_take {F : List (List Int)} {k : Nat} {l : List Int} (h : F[k]? = some l) : msks (F.take (k + 1)) = msks (F.take k) ++ [msk l] := by rw [take_l h]; simp [msks]
theorem lastm_lt {F : List (List Int)} {k : Nat} (h : FS F k) (hk : k ≤ F.length) : lastm F k < 64 := by
  cases k with
  | zero => simp [lastm]
  | succ k =>
    have hx : F[k]? = some F[k] := List.getElem?_eq_getElem (by omega)
    have : lastm F (k + 1) = msk F[k] := by simp [lastm, hx]
    rw [this]
    exact msk_lt (h.1 _ (List.mem_of_getElem? (i := k) (by rw [List.getElem?_take_of_lt (by omega)]; exact hx)))

/-- What the reading of a quorum system hands back. -/
def FamOf (w : World) (F : List (List Int)) (e : Ending) (w' : World) : Prop :=
  Below w.heap.size w w' ∧ ((famOk F = false ∧ e = .returned (.tuple #[.slice none 0 0, .bool false])) ∨
    (famOk F = true ∧ ∃ A c, e = .returned (.tuple #[.slice A (msks F).length c, .bool true]) ∧ w'.ownsRow w.heap.size 59 1 (.slice A (msks F).length c) (msks F).length (ubs (msks F))))
theorem u8_le (a b : Nat) : ((a : Int) ≤ (b : Int)) ↔ a ≤ b := by omega

set_option maxRecDepth 100000 in
set_option maxHeartbeats 600000 in
theorem familyOf_any (A : Option Addr) (c : Nat) (F : List (List Int)) (w : World) (ha : ISS w A F) (hl : F.length ≤ 1048576) (hs : Short F 1048576) :
    Calls Try.prog 66 #[.slice A F.length c] w (FamOf w F) := by
  obtain ⟨i0, hi0, hz0, hz1, hz2⟩ := info_parts bits_info
  by_cases h20 : F.length ≤ 20
  · go_enter Try.func66, Try.ntmps66
    go_wp2
    go_loopw [4, 5, 15] (fun v q i wr => ∃ k : Nat, k ≤ F.length ∧ i = .int .i64 k ∧ q = .int .u8 (lastm F k : Nat) ∧ Hid (FS F k) ∧ wr.ownsRow w.heap.size 59 1 v (msks (F.take k)).length (ubs (msks (F.take k))) ∧ Below w.heap.size w wr) (fun _ _ i _ => F.length - (intOf i).toNat)
    case atStart => exact ⟨0, Nat.zero_le _, rfl, rfl, FS.zero F, (by simpa [msks, ubs] using World.ownsRow_nil _ _ _ _), Below.refl _ _⟩
    case round =>
      obtain ⟨k, hk, rfl, rfl, hfs, hown, hbel⟩ := hrel
      have hlast := lastm_lt hfs.out hk
      by_cases hlt : k < F.length
      · obtain ⟨b, off, l, B, d, rfl, hx, hc, hil⟩ := (ha.below hbel).at_ hlt
        have hll := hs.at_ hx
        have HX := Lib.hid hx
        clear hx
        cases hv : vld l
        · have H := Lib.hid (hfs.out.bad HX.out (.inl hv))
          have HV := Lib.hid hv
          clear hv hfs hown
          go_wp2_with fail
          refine (bitsOf_no _ _ _ _ hil HV.out hll).mono ?_
          rintro e w' ⟨rfl, rfl⟩
          go_wp2
          go_ret2
          exact ⟨hbel, .inl ⟨H.out, rfl⟩⟩
        · have HV := Lib.hid hv
          have hm := msk_lt hv
          clear hv
          by_cases hle : msk l ≤ lastm F k
          · have H := Lib.hid (hfs.out.bad HX.out (.inr (.inl hle)))
            have hle' : ((msk l : Nat) : Int) ≤ ((lastm F k : Nat) : Int) := by omega
            clear hfs hown hle
            go_wp2_with fail
            refine (bitsOf_yes _ _ _ _ hil HV.out).mono ?_
            rintro e w' ⟨rfl, rfl⟩
            go_wp2
            go_ret2
            exact ⟨hbel, .inl ⟨H.out, rfl⟩⟩
          · have hle' : ¬ ((msk l : Nat) : Int) ≤ ((lastm F k : Nat) : Int) := by omega
            have hKm : Msk (msks (F.take k)) := msks_msk hfs.out.1
            have hKl : (msks (F.take k)).length ≤ 20 := by simp [msks]; omega
            obtain ⟨A', c', rfl⟩ := own_slice hown
            have hib := (IB.of_own hown).1
            have HLE := Lib.hid (show lastm F k < msk l by omega)
            clear hle
            cases hq : hasQ (msks (F.take k)) (msk l)
            · have HF := Lib.hid (hfs.out.step HX.out HV.out HLE.out hq)
              have HQ := Lib.hid hq
              have HM := Lib.hid (msks_take HX.out)
              have HLL := Lib.hid (show lastm F (k + 1) = msk l by have := HX.out; simp [lastm, this])
              clear hq hfs
              go_wp2_with fail
              refine (bitsOf_yes _ _ _ _ hil HV.out).mono ?_
              rintro e w' ⟨rfl, rfl⟩
              go_wp2_with fail
              refine (hasQuorum_any _ _ _ _ _ hib (by omega) hKm hm).mono ?_
              rintro e w' ⟨he, rfl⟩
              rw [HQ.out] at he
              subst he
              go_wp2_with (at_builtin; refine wpList_append_own _ rfl (.tmp 36) (.tmp 38) 63 rfl w.heap.size 59 i0 (.int .u8 0) 1 1 Try.underlying63 hi0 hz0 hz1 hz2 rfl (by decide) _ _ _ rfl (hown.alloc _) ⟨wr.heap.size, 0, none⟩ 1 1 [.int .u8 (msk l : Nat)] rfl rfl (cell_one_new _ _ _) (ints_oneCell .u8 [((msk l : Nat) : Int)]) (by unfold maxLen; omega) (by omega) (by have := hbel.size; simp; omega) ?_)
              intro v' w1 hown' hgrow _
              have R := Lib.hid (show w1.ownsRow w.heap.size 59 1 v' (msks (F.take (k + 1))).length (ubs (msks (F.take (k + 1)))) ∧ Below w.heap.size w w1 by
                refine ⟨?_, app_gen hown (Nat.le_refl _) hbel hgrow⟩
                rw [HM.out, ubs_snoc]
                simpa using hown')
              clear hown hown' hgrow hbel hib
              go_wp2
              go_roundw
              case rel => exact ⟨k + 1, by omega, by go_num, by rw [HLL.out], HF.out, R.out.1, R.out.2⟩
              case measure => simp [intOf]; omega
            · have H := Lib.hid (hfs.out.bad HX.out (.inr (.inr hq)))
              have HQ := Lib.hid hq
              clear hq hfs
              go_wp2_with fail
              refine (bitsOf_yes _ _ _ _ hil HV.out).mono ?_
              rintro e w' ⟨rfl, rfl⟩
              go_wp2_with fail
              refine (hasQuorum_any _ _ _ _ _ hib (by omega) hKm hm).mono ?_
              rintro e w' ⟨he, rfl⟩
              rw [HQ.out] at he
              subst he
              go_wp2
              go_ret2
              exact ⟨hbel, .inl ⟨H.out, rfl⟩⟩
      · have hkl : k = F.length := by omega
        subst hkl
        have H := Lib.hid (show famOk F = true by rw [hfs.out.end_]; simp; omega)
        rw [List.take_length] at hown
        obtain ⟨A', c', rfl⟩ := own_slice hown
        have HO := Lib.hid hown
        clear hfs hown
        go_wp2
        go_ret2
        exact ⟨hbel, .inr ⟨H.out, A', c', rfl, HO.out⟩⟩
  · have H := Lib.hid (show famOk F = false by simp [famOk, h20])
    go_enter Try.func66, Try.ntmps66
    go_wp2
    go_ret2
    exact ⟨Below.refl _ _, .inl ⟨H.out, rfl⟩⟩

def hasQR (F : List (List Int)) (s : List Int) : Bool := famOk F && vld s && hasL F s

set_option maxRecDepth 100000 in
set_option maxHeartbeats 800000 in
theorem implHasQ_any (A B : Option Addr) (c d : Nat) (F : List (List Int)) (s : List Int) (w : World) (ha : ISS w A F) (hb : IL w B s) (hl : F.length ≤ 1048576) (hs : Short F 1048576) (hls : s.length ≤ 1048576) :
    Calls Try.prog 27 #[.slice A F.length c, .slice B s.length d] w fun e w' => e = .returned (.bool (hasQR F s)) ∧ Below w.heap.size w w' := by
  go_enter Try.func27, Try.ntmps27
  go_wp2_with fail
  refine (familyOf_any _ _ _ _ ha hl hs).mono ?_
  rintro e w1 ⟨hb1, hor⟩
  have hb' := hb.below hb1
  cases hv : vld s
  · have HV := Lib.hid hv
    have H := Lib.hid (show hasQR F s = false by simp [hasQR, hv])
    clear hv
    rcases hor with ⟨hf, rfl⟩ | ⟨hf, A', c', rfl, ho⟩
    · clear hf
      go_wp2_with fail
      refine (bitsOf_no _ _ _ _ hb' HV.out hls).mono ?_
      rintro e w' ⟨rfl, rfl⟩
      go_wp2
      go_ret
      exact ⟨ret_bool H.out.symm, hb1⟩
    · clear hf ho
      go_wp2_with fail
      refine (bitsOf_no _ _ _ _ hb' HV.out hls).mono ?_
      rintro e w' ⟨rfl, rfl⟩
      go_wp2
      go_ret
      exact ⟨ret_bool H.out.symm, hb1⟩
  · have HV := Lib.hid hv
    have hm := msk_lt hv
    clear hv
    rcases hor with ⟨hf, rfl⟩ | ⟨hf, A', c', rfl, ho⟩
    · have H := Lib.hid (show hasQR F s = false by simp [hasQR, hf])
      clear hf
      go_wp2_with fail
      refine (bitsOf_yes _ _ _ _ hb' HV.out).mono ?_
      rintro e w' ⟨rfl, rfl⟩
      go_wp2
      go_ret
      exact ⟨ret_bool H.out.symm, hb1⟩
    · have hV := famOk_allV hf
      have H := Lib.hid (show hasQR F s = hasQ (msks F) (msk s) by rw [hasQR, hf, HV.out, hasL_eq hV HV.out]; rfl)
      have hlen : (msks F).length ≤ 1048576 := by simp [msks]; exact hl
      have hib := (IB.of_own ho).1
      have hM := msks_msk hV
      clear hf ho
      go_wp2_with fail
      refine (bitsOf_yes _ _ _ _ hb' HV.out).mono ?_
      rintro e w' ⟨rfl, rfl⟩
      go_wp2_with fail
      refine (hasQuorum_any _ _ _ _ _ hib hlen hM hm).mono ?_
      rintro e w' ⟨rfl, rfl⟩
      go_wp2
      go_ret
      exact ⟨ret_bool H.out.symm, hb1⟩

set_option maxRecDepth 100000 in
set_option maxHeartbeats 800000 in
theorem specHasQ_any (A B : Option Addr) (c d : Nat) (F : List (List Int)) (s : List Int) (w : World) (ha : ISS w A F) (hb : IL w B s) (hl : F.length ≤ 1048576) (hs : Short F 1048576) (hls : s.length ≤ 1048576) :
    Calls Try.prog 28 #[.slice A F.length c, .slice B s.length d] w fun e w' => e = .returned (.bool (hasQR F s)) ∧ Below w.heap.size w w' := by
  cases hf : famOk F
  · have HF := Lib.hid hf
    have H := Lib.hid (show hasQR F s = false by simp [hasQR, hf])
    clear hf
    go_enter Try.func28, Try.ntmps28
    go_wp2_with fail
    refine (specFam_any _ _ _ _ ha hl hs).mono ?_
    rintro e w1 ⟨he, hd1⟩
    rw [HF.out] at he
    subst he
    go_wp2
    go_ret
    exact ⟨ret_bool H.out.symm, hd1.below⟩
  · have HF := Lib.hid hf
    cases hv : vld s
    · have HV := Lib.hid hv
      have H := Lib.hid (show hasQR F s = false by simp [hasQR, hv])
      clear hv hf
      go_enter Try.func28, Try.ntmps28
      go_wp2_with fail
      refine (specFam_any _ _ _ _ ha hl hs).mono ?_
      rintro e w1 ⟨he, hd1⟩
      rw [HF.out] at he
      subst he
      go_wp2_with fail
      refine (specValid_f _ _ _ _ (hb.below hd1.below) hls HV.out).mono ?_
      rintro e w2 ⟨rfl, hb2⟩
      go_wp2
      go_ret
      exact ⟨ret_bool H.out.symm, below_step hd1.below hb2⟩
    · have HV := Lib.hid hv
      have H := Lib.hid (show hasQR F s = hasL F s by simp [hasQR, hv, hf])
      clear hv hf
      go_enter Try.func28, Try.ntmps28
      go_wp2_with fail
      refine (specFam_any _ _ _ _ ha hl hs).mono ?_
      rintro e w1 ⟨he, hd1⟩
      rw [HF.out] at he
      subst he
      go_wp2_with fail
      refine (specValid_t _ _ _ _ (hb.below hd1.below) hls HV.out).mono ?_
      rintro e w2 ⟨rfl, hb2⟩
      have hbb := below_step hd1.below hb2
      go_wp2_with fail
      refine (l3Has_any _ _ _ _ _ _ _ (ha.below hbb) (hb.below hbb) hl hs hls).mono ?_
      rintro e w' ⟨rfl, rfl⟩
      go_wp2
      go_ret
      exact ⟨ret_bool H.out.symm, hbb⟩
end Go.Proofs.Ytgbijndfpbcjeaa
