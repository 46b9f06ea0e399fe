/- Quorums as lists, and the program's FamilyMinimize, by their contracts. -/
import Derived.Test.YtgbijndfpbcjeaaHeapQ
namespace Go.Proofs.Ytgbijndfpbcjeaa
open Go.RowKit

theorem mems_take {K : List Nat} {k m : Nat} (h : K[k]? = some m) : mems (K.take (k + 1)) = mems (K.take k) ++ [mem m] := by simp [mems, List.take_add_one, h]
theorem mems_len (K : List Nat) : (mems K).length = K.length := by simp [mems]
theorem mems_short (K : List Nat) (n : Nat) (hn : 6 ≤ n) : Short (mems K) n := by
  intro l hl
  obtain ⟨m, _, rfl⟩ := List.mem_map.1 hl
  exact Nat.le_trans (mem_len m) hn
theorem mems_wt (K : List Nat) : wt (mems K) ≤ 6 * K.length := by
  induction K with
  | nil => simp [wt, mems]
  | cons m K ih =>
    have := mem_len m
    simp only [wt, mems, List.map_cons, List.sum_cons, List.length_cons] at ih ⊢
    omega

/-- A row is appended to rows. -/
theorem rows_app {lo hi lo2 hi2 n : Nat} {w1 w2 : World} {F : List (List Int)} {rs xs : List Value} {l : List Int} {x v : Value} {o : Obj}
    (hrows : Rws w1 lo hi F rs) (hx : RowAt w1 lo2 hi2 l x) (h1 : hi ≤ lo2) (h2 : lo ≤ lo2) (h3 : lo2 ≤ hi2) (hown : w1.ownsRow lo 28 1 v n xs) (hg : (w1.alloc o).grownBy w2 v.ownBlock) :
    Rws w2 lo w2.heap.size (F ++ [l]) (rs ++ [x]) := by
  have hh : hi2 ≤ w1.heap.size := by obtain ⟨_, _, _, ho⟩ := hx; exact ho.2.1
  have hR := hrows.snoc hx h1 h2 (by omega)
  have hsz : w1.heap.size ≤ w2.heap.size := by have := hg.size; simp at this; omega
  refine Rws.hi_le (hi := hi2) (hR.at_ (Nat.le_trans hh hsz) fun g _ h5 ⟨cur, hc⟩ => ?_) (Nat.le_trans hh hsz) (Nat.le_refl _)
  rw [hg.block g (by simp; omega) ?_, Below.heap_alloc w1 _ g (by omega)]
  intro e
  obtain ⟨cur2, hc2⟩ := own_cells hown g e.symm
  rw [hc] at hc2
  injection hc2 with hc2
  injection hc2 with _ hc2
  exact ne_types hc2.symm

/-- Rows of the call's own, handed back. -/
def NewSS (w : World) (F : List (List Int)) (e : Ending) (w' : World) : Prop :=
  ∃ A c, e = .returned (.slice A F.length c) ∧ OSS w' w.heap.size w'.heap.size A c F ∧ Below w.heap.size w w'
theorem OSS.of_rows {w : World} {lo c : Nat} {A : Option Addr} {F : List (List Int)} {rs : List Value} (ho : w.ownsRow lo 28 1 (.slice A F.length c) F.length rs) (hr : Rws w lo w.heap.size F rs) : OSS w lo w.heap.size A c F :=
  ⟨rs, ho, Nat.le_refl _, fun g hg => ho.lt g hg, hr⟩
theorem slice_oneCell (A : Option Addr) (n c : Nat) : ∀ u ∈ [Value.slice A n c], u.oneCell' = true := by
  intro u hu
  simp at hu
  subst hu
  rfl

set_option maxRecDepth 100000 in
set_option maxHeartbeats 800000 in
theorem lists_any (A : Option Addr) (c : Nat) (K : List Nat) (w : World) (ha : IB w A K) (hK : Msk K) (hl : K.length ≤ 1000) :
    Calls Try.prog 58 #[.slice A K.length c] w (NewSS w (mems K)) := by
  obtain ⟨i0, hi0, hz0, hz1, hz2⟩ := info_parts slice_info
  go_enter Try.func58, Try.ntmps58
  go_wp2
  go_loopw [3, 8] (fun v i wr => ∃ (k : Nat) (rs : List Value), k ≤ K.length ∧ i = .int .i64 k ∧ rs.length = k ∧ wr.ownsRow w.heap.size 28 1 v rs.length rs ∧ Hid (Rws wr w.heap.size wr.heap.size (mems (K.take k)) rs) ∧ Below w.heap.size w wr) (fun _ i _ => K.length - (intOf i).toNat)
  case atStart => exact ⟨0, [], Nat.zero_le _, rfl, rfl, World.ownsRow_nil _ _ _ _, Rws.nil _ _ _, Below.refl _ _⟩
  case round =>
    obtain ⟨k, rs, hk, rfl, hrl, hown, hrows, hbel⟩ := hrel
    by_cases hlt : k < K.length
    · obtain ⟨b, off, m, rfl, hx, hc⟩ := (ha.below hbel).at_ hlt
      have hm := hK m (List.mem_of_getElem? hx)
      have HM := Lib.hid (mems_take hx)
      have HRL := Lib.hid hrl
      have hrl' : rs.length ≤ 1000 := by omega
      clear hx hrl
      go_wp2_with fail
      refine (members_any m _ hm).mono ?_
      rintro e w1 ⟨A1, c1, rfl, o1, b1⟩
      have hown1 := own_at hown (w' := w1) fun g hg => b1.block g (hown.lt g hg).2
      have hb1 := below_step hbel b1
      have HR1 := Lib.hid (And.intro (hrows.out.below (Nat.le_refl _) b1) (show RowAt w1 wr.heap.size w1.heap.size (mem m) (.slice A1 (mem m).length c1) from ⟨_, _, rfl, Own.of_new o1⟩))
      have hq : w.heap.size ≤ wr.heap.size ∧ wr.heap.size ≤ w1.heap.size := ⟨hbel.size, b1.size⟩
      clear hown hbel b1 o1 hrows hc
      go_wp2_with (at_builtin; refine wpList_append_own _ rfl (.tmp 12) (.tmp 15) 23 rfl w.heap.size 28 i0 (.slice none 0 0) 1 24 Try.underlying23 hi0 hz0 hz1 hz2 rfl (by decide) _ _ _ rfl (hown1.alloc _) ⟨w1.heap.size, 0, none⟩ 1 1 [.slice A1 (mem m).length c1] rfl rfl (cell_one_new _ _ _) (slice_oneCell _ _ _) (by unfold maxLen; omega) (by omega) (by simp; omega) ?_)
      intro v' w2 hown2 hgrow _
      have R := Lib.hid (show w2.ownsRow w.heap.size 28 1 v' (rs ++ [Value.slice A1 (mem m).length c1]).length (rs ++ [Value.slice A1 (mem m).length c1]) ∧ Rws w2 w.heap.size w2.heap.size (mems (K.take (k + 1))) (rs ++ [Value.slice A1 (mem m).length c1]) ∧ Below w.heap.size w w2 by
        refine ⟨by simpa using hown2, ?_, app_gen hown1 (Nat.le_refl _) hb1 hgrow⟩
        rw [HM.out]
        exact rows_app HR1.out.1 HR1.out.2 (Nat.le_refl _) hq.1 hq.2 hown1 hgrow)
      clear hown1 hown2 hgrow hb1 HR1
      go_wp2
      go_roundw
      case rel => exact ⟨k + 1, _, by omega, by go_num, by have := HRL.out; simp; omega, R.out.1, R.out.2.1, R.out.2.2⟩
      case measure => simp [intOf]; omega
    · have hkl : k = K.length := by omega
      subst hkl
      have h1 := hrows.out
      rw [List.take_length] at h1
      rw [hrl, ← mems_len K] at hown
      obtain ⟨A1, c1, rfl⟩ := own_slice hown
      have HO := Lib.hid (OSS.of_rows hown h1)
      clear hown hrows h1 hrl
      go_wp2
      go_ret
      exact ⟨A1, c1, rfl, HO.out, hbel⟩

/-- Rows and a sign, handed back. -/
def NewSS2 (w : World) (F : List (List Int)) (b : Bool) (e : Ending) (w' : World) : Prop :=
  ∃ A c, e = .returned (.tuple #[.slice A F.length c, .bool b]) ∧ OSS w' w.heap.size w'.heap.size A c F ∧ Below w.heap.size w w'
theorem NewSS2.nil {w w' : World} (hb : Below w.heap.size w w') : NewSS2 w [] false (.returned (.tuple #[.slice none 0 0, .bool false])) w' :=
  ⟨none, 0, rfl, OSS.of_rows (World.ownsRow_nil _ _ _ _) (Rws.nil _ _ _), hb⟩
theorem OSS.base {w : World} {lo lo2 hi c : Nat} {A : Option Addr} {F : List (List Int)} (h : OSS w lo hi A c F) (hl : lo2 ≤ lo) : OSS w lo2 hi A c F := by
  obtain ⟨rs, ho, hh, hb, hr⟩ := h
  refine ⟨rs, own_base ho hl, hh, fun g hg => ⟨Nat.le_trans hl (hb g hg).1, (hb g hg).2⟩, hr.1, fun j l v h1 h2 => ?_, hr.2.2⟩
  obtain ⟨A', c', rfl, ho'⟩ := hr.2.1 j l v h1 h2
  exact ⟨A', c', rfl, ho'.mono hl (Nat.le_refl _) hh⟩

/-- What FamilyMinimize asks of its argument. -/
def minIn (F : List (List Int)) : Bool := decide (F.length ≤ 64) && F.all fun l => vld l && decide (0 < msk l)
def minOut (F : List (List Int)) : List (List Int) := if minIn F = true then mems (mins (msks F)) else []
theorem minIn_bad {F : List (List Int)} {k : Nat} {l : List Int} (hx : F[k]? = some l) (h : vld l = false ∨ msk l = 0) : minIn F = false := by
  have : (F.all fun l => vld l && decide (0 < msk l)) = false := by
    rw [List.all_eq_false]
    exact ⟨l, List.mem_of_getElem? hx, by rcases h with h | h <;> simp [h]⟩
  rw [minIn, this, Bool.and_false]

/-- A heap that has just been made. -/
theorem HeapAt.made {w : World} : HeapAt ((w.alloc (.cells #[] 59)).alloc (.cells #[.slice (some ⟨w.heap.size, 0, none⟩) 0 0] 58)) w.heap.size (w.heap.size + 1) [] := by
  refine ⟨⟨by omega, .slice (some ⟨w.heap.size, 0, none⟩) 0 0, ?_, ?_⟩, fun k hk hk0 => by simp at hk0⟩
  · have := heap_alloc_new (w.alloc (.cells #[] 59)) (.cells #[.slice (some ⟨w.heap.size, 0, none⟩) 0 0] 58)
    rw [World.size_alloc] at this
    exact this
  · have h := (World.ownsRow_made (base := w.heap.size) (e := 59) (size := 1) w #[] 0 (Nat.le_refl _) (by unfold maxLen; omega) (by simp))
    exact h.alloc _

set_option maxRecDepth 100000 in
set_option maxHeartbeats 1600000 in
theorem implMin_any (A : Option Addr) (c : Nat) (F : List (List Int)) (w : World) (ha : ISS w A F) (hl : F.length ≤ 1048576) (hs : Short F 1048576) :
    Calls Try.prog 17 #[.slice A F.length c] w (NewSS2 w (minOut F) (minIn F)) := by
  by_cases h64 : F.length ≤ 64
  · have hmade := HeapAt.made (w := w)
    have hbm : Below w.heap.size w ((w.alloc (.cells #[] 59)).alloc (.cells #[.slice (some ⟨w.heap.size, 0, none⟩) 0 0] 58)) := ((Below.refl _ w).alloc (Nat.le_refl _) _).alloc (by simp) _
    have HM := Lib.hid (And.intro hmade hbm)
    clear hmade hbm
    go_enter Try.func17, Try.ntmps17
    go_wp2
    go_loopw [16] (fun i wr => ∃ (k : Nat) (b : List Nat), k ≤ F.length ∧ i = .int .i64 k ∧ b.length = k ∧ HeapAt wr w.heap.size (w.heap.size + 1) b ∧ Hid (b.Perm (msks (F.take k)) ∧ ∀ l ∈ F.take k, vld l = true ∧ 0 < msk l) ∧ Below w.heap.size w wr) (fun i _ => F.length - (intOf i).toNat)
    case atStart => exact ⟨0, [], Nat.zero_le _, rfl, rfl, HM.out.1, ⟨by simp [msks], by simp⟩, HM.out.2⟩
    case round =>
      clear HM
      obtain ⟨k, b, hk, rfl, hbk, hhp, hpm, hbel⟩ := hrel
      by_cases hlt : k < F.length
      · obtain ⟨bb, off, l, B, d, rfl, hx, hc, hil⟩ := (ha.below hbel).at_ hlt
        have hll := hs.at_ hx
        have HX := Lib.hid hx
        clear hx
        cases hv : vld l
        · have H := Lib.hid (minIn_bad HX.out (.inl hv))
          have HV := Lib.hid hv
          clear hv hhp hpm
          go_wp2_with fail
          refine (bitsOf_no _ _ _ _ hil HV.out hll).mono ?_
          rintro e w' ⟨rfl, rfl⟩
          go_wp2
          go_ret2
          rw [minOut, H.out]
          exact NewSS2.nil hbel
        · have HV := Lib.hid hv
          have hm := msk_lt hv
          clear hv
          by_cases hm0 : msk l = 0
          · have H := Lib.hid (minIn_bad HX.out (.inr hm0))
            have hm0b : (((msk l : Nat) : Int) == 0) = true := by simp [hm0]
            clear hhp hpm hm0
            go_wp2_with fail
            refine (bitsOf_yes _ _ _ _ hil HV.out).mono ?_
            rintro e w' ⟨rfl, rfl⟩
            go_wp2
            go_ret2
            rw [minOut, H.out]
            exact NewSS2.nil hbel
          · have hm0b : (((msk l : Nat) : Int) == 0) = false := beq_eq_false_iff_ne.2 (by omega)
            have HM0 := Lib.hid (show 0 < msk l by omega)
            have hbl : b.length ≤ 1000 := by omega
            clear hm0
            go_wp2_with fail
            refine (bitsOf_yes _ _ _ _ hil HV.out).mono ?_
            rintro e w' ⟨rfl, rfl⟩
            go_wp2_with fail
            refine (add_any w.heap.size (w.heap.size + 1) (msk l) b _ hhp hbl).mono ?_
            rintro e w1 ⟨rfl, b', hhp', hperm, hbl', hb1⟩
            have HR := Lib.hid (show HeapAt w1 w.heap.size (w.heap.size + 1) b' ∧ (b'.Perm (msks (F.take (k + 1))) ∧ ∀ l ∈ F.take (k + 1), vld l = true ∧ 0 < msk l) ∧ Below w.heap.size w w1 by
              refine ⟨hhp', ⟨?_, ?_⟩, hbel.trans hb1⟩
              · rw [msks_take HX.out]
                exact hperm.trans ((List.Perm.cons _ hpm.out.1).trans (List.perm_append_comm (l₁ := [msk l])))
              · rw [take_l HX.out]
                intro a ha
                rcases List.mem_append.1 ha with h5 | h5
                · exact hpm.out.2 a h5
                · simp at h5; subst h5; exact ⟨HV.out, HM0.out⟩)
            have hbl2 : b'.length = k + 1 := by omega
            clear hhp hhp' hpm hperm hbel hb1 hil hc
            go_wp2
            go_roundw
            case rel => exact ⟨k + 1, b', by omega, by go_num, hbl2, HR.out.1, HR.out.2.1, HR.out.2.2⟩
            case measure => simp [intOf]; omega
      · have hkl : k = F.length := by omega
        subst hkl
        have HP := Lib.hid (show b.Perm (msks F) ∧ Msk (msks F) ∧ minIn F = true by
          have h1 := hpm.out
          rw [List.take_length] at h1
          refine ⟨h1.1, msks_msk fun l hl => (h1.2 l hl).1, ?_⟩
          rw [minIn, decide_eq_true h64, Bool.true_and, List.all_eq_true]
          intro l hl
          simp [h1.2 l hl])
        have hbl : b.length ≤ 1000 := by omega
        clear hpm
        go_wp2_with fail
        refine (minimal_any w.heap.size (w.heap.size + 1) (msks F) b _ hhp HP.out.1 HP.out.2.1 hbl).mono ?_
        rintro e w1 ⟨A1, c1, rfl, o1, b1⟩
        have hib := (IB.of_own o1).1
        have hml := mins_len (msks F)
        have hmm := mins_lt (msks F)
        have hb1 := hbel.trans b1
        clear o1 b1 hbel hhp
        go_wp2_with fail
        refine (lists_any A1 c1 _ _ hib hmm (by omega)).mono ?_
        rintro e w2 ⟨A2, c2, rfl, o2, b2⟩
        have HR := Lib.hid (show NewSS2 w (minOut F) (minIn F) (.returned (.tuple #[.slice A2 (mems (mins (msks F))).length c2, .bool true])) w2 by
          rw [minOut, HP.out.2.2]
          exact ⟨A2, c2, rfl, o2.base hb1.size, hb1.trans (b2.mono hb1.size)⟩)
        clear o2 b2 hib hb1
        go_wp2
        go_ret2
        exact HR.out
  · have H := Lib.hid (show minIn F = false by simp [minIn, h64])
    go_enter Try.func17, Try.ntmps17
    go_wp2
    go_ret2
    rw [minOut, H.out]
    exact NewSS2.nil (Below.refl _ _)
end Go.Proofs.Ytgbijndfpbcjeaa
