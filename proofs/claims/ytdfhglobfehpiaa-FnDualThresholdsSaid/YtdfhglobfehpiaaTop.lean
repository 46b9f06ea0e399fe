/- Depth, members and satisfaction of texts: program and model by their contracts; the walks of the exact laws. -/
import Derived.Test.YtdfhglobfehpiaaSpecY
import Derived.Test.YtdfhglobfehpiaaSatI
import Derived.Test.YtdfhglobfehpiaaSpecV
import Derived.Test.YtdfhglobfehpiaaOwn
namespace Go.Proofs.Ytdfhglobfehpiaa
open Go.RowKit

def depR (T : ByteArray) : Int := match pT0 T with | none => -1 | some x => (dep x : Int)
def memX (T : ByteArray) : List Int := match pT0 T with | none => [] | some x => mem (ms x)
def satX (T : ByteArray) (l : List Int) : Bool := match pT0 T with | none => false | some x => vld l && sat (msk l) x
theorem memX_len (T : ByteArray) : (memX T).length ≤ 6 := by unfold memX; split; simp; exact mem_len _
theorem spec_no (T : ByteArray) (w : World) (hT : T.size ≤ 1048576) (h : pT0 T = none) : Calls Try.prog 12 #[.string T] w fun e w' => e = .returned (.bool false) ∧ w = w' := by
  have := specValidX T w hT
  rwa [show okX T = false by simp [okX, h]] at this
theorem spec_yes (T : ByteArray) (w : World) (hT : T.size ≤ 1048576) {x : Ex} (h : pT0 T = some x) : Calls Try.prog 12 #[.string T] w fun e w' => e = .returned (.bool true) ∧ w = w' := by
  have := specValidX T w hT
  rwa [show okX T = true by simp [okX, h]] at this

set_option maxRecDepth 100000 in
set_option maxHeartbeats 1600000 in
theorem implDepthX (T : ByteArray) (w : World) (hT : T.size ≤ 1048576) : Calls Try.prog 25 #[.string T] w fun e w' => e = .returned (.int .i64 (depR T)) ∧ Below w.heap.size w w' := by
  go_enter Try.func25, Try.ntmps25
  go_wp2_with fail
  refine (parse_any T w hT).mono ?_
  rintro e w1 ⟨b1, ⟨hn, rfl⟩ | ⟨x, v, hs, rfl, ht⟩⟩
  · have HP := Lib.hid (show depR T = -1 by simp [depR, hn])
    clear hn
    go_wp2_with fail
    go_ret
    exact ⟨ret_int HP.out.symm, b1⟩
  · have HP := Lib.hid (show depR T = (dep x : Int) by simp [depR, hs])
    obtain ⟨_, hw, hl⟩ := bx_of hs
    have HC := Lib.hid (depthOf_any 40 x v _ w1 hl (by omega) hw ht)
    clear hs ht hw
    go_wp2_with (go_at_call 41; refine HC.out.mono ?_; rintro e w' ⟨rfl, rfl⟩)
    go_ret
    exact ⟨ret_int HP.out.symm, b1⟩
set_option maxRecDepth 100000 in
set_option maxHeartbeats 1600000 in
theorem specDepthX (T : ByteArray) (w : World) (hT : T.size ≤ 1048576) : Calls Try.prog 24 #[.string T] w fun e w' => e = .returned (.int .i64 (depR T)) ∧ Below w.heap.size w w' := by
  cases hp : pT0 T with
  | none =>
    have HP := Lib.hid (show depR T = -1 by simp [depR, hp])
    have HC := Lib.hid (spec_no T w hT hp)
    clear hp
    go_enter Try.func24, Try.ntmps24
    go_wp2_with (go_at_call 12; refine HC.out.mono ?_; rintro e w' ⟨rfl, rfl⟩)
    go_ret
    exact ⟨ret_int HP.out.symm, Below.refl _ _⟩
  | some x =>
    have HP := Lib.hid (show depR T = (dep x : Int) by simp [depR, hp])
    have HC := Lib.hid (spec_yes T w hT hp)
    obtain ⟨hx, hw, hl⟩ := bx_of hp
    have HD := Lib.hid (l2Depth_any 40 x w hl (by omega) hw)
    rw [← hx] at HD
    clear hp hw hx
    go_enter Try.func24, Try.ntmps24
    go_wp2_with (go_at_call 12; refine HC.out.mono ?_; rintro e w' ⟨rfl, rfl⟩)
    refine HD.out.mono ?_
    rintro e w1 ⟨rfl, b1⟩
    clear HC HD
    go_wp2_with fail
    go_ret
    exact ⟨ret_int HP.out.symm, b1⟩

set_option maxRecDepth 100000 in
set_option maxHeartbeats 1600000 in
theorem implMembersX (T : ByteArray) (w : World) (hT : T.size ≤ 1048576) : Calls Try.prog 15 #[.string T] w (New w (memX T)) := by
  go_enter Try.func15, Try.ntmps15
  go_wp2_with fail
  refine (parse_any T w hT).mono ?_
  rintro e w1 ⟨b1, ⟨hn, rfl⟩ | ⟨x, v, hs, rfl, ht⟩⟩
  · have HP := Lib.hid (show memX T = [] by simp [memX, hn])
    clear hn
    go_wp2_with fail
    go_ret
    rw [HP.out]
    exact New.nil b1
  · have HP := Lib.hid (show memX T = mem (ms x) by simp [memX, hs])
    obtain ⟨_, hw, hl⟩ := bx_of hs
    have HC := Lib.hid (membersOf_any 40 x v _ w1 hl hw ht)
    have hm := ms_lt x hw
    clear hs ht hw
    go_wp2_with (go_at_call 33; refine HC.out.mono ?_; rintro e w' ⟨rfl, rfl⟩)
    refine (members_any _ _ hm).mono ?_
    rintro e w2 h2
    have HN := Lib.hid (h2.later b1)
    obtain ⟨A, c, rfl, _, _⟩ := h2
    clear HC b1
    go_wp2_with fail
    go_ret
    rw [HP.out]
    exact HN.out
set_option maxRecDepth 100000 in
set_option maxHeartbeats 1600000 in
theorem specMembersX (T : ByteArray) (w : World) (hT : T.size ≤ 1048576) : Calls Try.prog 14 #[.string T] w (New w (memX T)) := by
  cases hp : pT0 T with
  | none =>
    have HP := Lib.hid (show memX T = [] by simp [memX, hp])
    have HC := Lib.hid (spec_no T w hT hp)
    clear hp
    go_enter Try.func14, Try.ntmps14
    go_wp2_with (go_at_call 12; refine HC.out.mono ?_; rintro e w' ⟨rfl, rfl⟩)
    go_ret
    rw [HP.out]
    exact New.made (Below.refl _ _)
  | some x =>
    have HP := Lib.hid (show memX T = mem (ms x) by simp [memX, hp])
    have HC := Lib.hid (spec_yes T w hT hp)
    obtain ⟨hx, hw, hl⟩ := bx_of hp
    have HD := Lib.hid (l2Members_any 40 x w hl (by omega) hw)
    rw [← hx] at HD
    clear hp hw hx
    go_enter Try.func14, Try.ntmps14
    go_wp2_with (go_at_call 12; refine HC.out.mono ?_; rintro e w' ⟨rfl, rfl⟩)
    refine HD.out.mono ?_
    rintro e w1 h1
    have HN := Lib.hid h1
    obtain ⟨A, c, rfl, _, _⟩ := h1
    clear HC HD
    go_wp2_with fail
    go_ret
    rw [HP.out]
    exact HN.out

set_option maxRecDepth 100000 in
set_option maxHeartbeats 1600000 in
theorem implSatX (T : ByteArray) (A : Option Addr) (c : Nat) (l : List Int) (w : World) (hT : T.size ≤ 1048576) (ha : IL w A l) (hl : l.length ≤ 1048576) :
    Calls Try.prog 21 #[.string T, .slice A l.length c] w fun e w' => e = .returned (.bool (satX T l)) ∧ Below w.heap.size w w' := by
  go_enter Try.func21, Try.ntmps21
  go_wp2_with fail
  refine (parse_any T w hT).mono ?_
  rintro e w1 ⟨b1, ⟨hn, rfl⟩ | ⟨x, v, hs, rfl, ht⟩⟩
  · have HP := Lib.hid (show satX T l = false by simp [satX, hn])
    have ha1 := ha.below b1
    clear hn ha
    cases hv : vld l with
    | false =>
      have HC := Lib.hid (bitsOf_no A c l w1 ha1 hv hl)
      clear hv
      go_wp2_with (go_at_call 37; refine HC.out.mono ?_; rintro e w' ⟨rfl, rfl⟩)
      go_ret
      exact ⟨ret_bool HP.out.symm, b1⟩
    | true =>
      have HC := Lib.hid (bitsOf_yes A c l w1 ha1 hv)
      clear hv
      go_wp2_with (go_at_call 37; refine HC.out.mono ?_; rintro e w' ⟨rfl, rfl⟩)
      go_ret
      exact ⟨ret_bool HP.out.symm, b1⟩
  · have ha1 := ha.below b1
    obtain ⟨_, hw, hxl⟩ := bx_of hs
    cases hv : vld l with
    | false =>
      have HP := Lib.hid (show satX T l = false by simp [satX, hs, hv])
      have HC := Lib.hid (bitsOf_no A c l w1 ha1 hv hl)
      obtain ⟨t, a, rfl⟩ := ht.form
      clear hv hs ht hw ha
      go_wp2_with (go_at_call 37; refine HC.out.mono ?_; rintro e w' ⟨rfl, rfl⟩)
      go_ret
      exact ⟨ret_bool HP.out.symm, b1⟩
    | true =>
      have HC := Lib.hid (bitsOf_yes A c l w1 ha1 hv)
      have hm := msk_lt hv
      have HP := Lib.hid (show satX T l = sat (msk l) x by simp [satX, hs, hv])
      clear hv hs ha
      generalize msk l = s at *
      cases x with
      | mem m =>
        have ht' := ht
        simp only [Tr] at ht'
        obtain ⟨b, rfl, _, _⟩ := ht'
        have hm1 := m_sat_mem
        have HD := Lib.hid (satMem_any s hm m b _ w1 hw ht)
        clear ht hw ha1
        go_wp2_with (first
          | (go_at_call 37; refine HC.out.mono ?_; rintro e w' ⟨rfl, rfl⟩)
          | (go_at_call 101; refine HD.out.mono ?_; rintro e w' ⟨rfl, rfl⟩)
          | fail)
        go_ret
        exact ⟨ret_bool HP.out.symm, b1⟩
      | thr k es =>
        have ht' := ht
        simp only [Tr] at ht'
        obtain ⟨b, _, _, _, rfl, _⟩ := ht'
        have hm1 := m_sat_thr
        have HD := Lib.hid (satThr_any s hm 40 k es b _ w1 hxl hw ht)
        clear ht hw ha1
        go_wp2_with (first
          | (go_at_call 37; refine HC.out.mono ?_; rintro e w' ⟨rfl, rfl⟩)
          | (go_at_call 103; refine HD.out.mono ?_; rintro e w' ⟨rfl, rfl⟩)
          | fail)
        go_ret
        exact ⟨ret_bool HP.out.symm, b1⟩
set_option maxRecDepth 100000 in
set_option maxHeartbeats 1600000 in
theorem specSatX (T : ByteArray) (A : Option Addr) (c : Nat) (l : List Int) (w : World) (hT : T.size ≤ 1048576) (ha : IL w A l) (hl : l.length ≤ 1048576) :
    Calls Try.prog 19 #[.string T, .slice A l.length c] w fun e w' => e = .returned (.bool (satX T l)) ∧ Below w.heap.size w w' := by
  cases hp : pT0 T with
  | none =>
    have HP := Lib.hid (show satX T l = false by simp [satX, hp])
    have HC := Lib.hid (spec_no T w hT hp)
    clear hp
    go_enter Try.func19, Try.ntmps19
    go_wp2_with (go_at_call 12; refine HC.out.mono ?_; rintro e w' ⟨rfl, rfl⟩)
    go_ret
    exact ⟨ret_bool HP.out.symm, Below.refl _ _⟩
  | some x =>
    have HC := Lib.hid (spec_yes T w hT hp)
    obtain ⟨hx, hw, hxl⟩ := bx_of hp
    cases hv : vld l with
    | false =>
      have HP := Lib.hid (show satX T l = false by simp [satX, hp, hv])
      have HV := Lib.hid (specValid_f A c l w ha hl hv)
      clear hp hw hx hv
      go_enter Try.func19, Try.ntmps19
      go_wp2_with (go_at_call 12; refine HC.out.mono ?_; rintro e w' ⟨rfl, rfl⟩)
      refine HV.out.mono ?_
      rintro e w1 ⟨rfl, b1⟩
      clear HC HV
      go_wp2_with fail
      go_ret
      exact ⟨ret_bool HP.out.symm, b1⟩
    | true =>
      have HV := Lib.hid (specValid_t A c l w ha hl hv)
      have hm := msk_lt hv
      have hml := mem_msk hv
      have HP := Lib.hid (show satX T l = sat (msk l) x by simp [satX, hp, hv])
      have HD := Lib.hid (fun w' (h : IL w' A (mem (msk l))) => l2Sat_any (msk l) hm A c 40 x w' hxl (by omega) hw h)
      rw [hml, ← hx] at HD
      clear hp hw hx hv hm hml
      generalize satX T l = R at *
      generalize msk l = s at *
      go_enter Try.func19, Try.ntmps19
      go_wp2_with (go_at_call 12; refine HC.out.mono ?_; rintro e w' ⟨rfl, rfl⟩)
      refine HV.out.mono ?_
      rintro e w1 ⟨rfl, b1⟩
      clear HC HV
      go_wp2_with fail
      refine (HD.out _ (ha.below b1)).mono ?_
      rintro e w2 ⟨rfl, b2⟩
      have b3 := below_step b1 b2
      clear HD b1 b2
      go_wp2_with fail
      go_ret
      exact ⟨ret_bool HP.out.symm, b3⟩

set_option maxRecDepth 100000 in
set_option maxHeartbeats 1600000 in
theorem walkExprDepthE (T : ByteArray) (w : World) (hm : T.size ≤ maxLen) :
    Calls Try.prog 7 #[.string T] w fun e w' => e = .returned (.bool true) ∧ Below w.heap.size w w' := by
  unfold maxLen at hm
  by_cases hl : T.size ≤ 1048576
  · go_enter Try.func7, Try.ntmps7
    go_wp2_with fail
    refine (specDepthX T w hl).mono ?_
    rintro e w1 ⟨rfl, b1⟩
    go_wp2_with fail
    refine (implDepthX T w1 hl).mono ?_
    rintro e w2 ⟨rfl, b2⟩
    have b3 := below_step b1 b2
    clear b1 b2
    generalize depR T = R at *
    go_wp2_with fail
    go_ret
    exact ⟨rfl, b3⟩
  · go_enter Try.func7, Try.ntmps7
    go_wp2_with fail
    go_ret
    exact ⟨rfl, Below.refl _ _⟩

set_option maxRecDepth 100000 in
set_option maxHeartbeats 1600000 in
theorem walkExprMembersE (T : ByteArray) (w : World) (hm : T.size ≤ maxLen) :
    Calls Try.prog 4 #[.string T] w fun e w' => e = .returned (.bool true) ∧ Below w.heap.size w w' := by
  unfold maxLen at hm
  by_cases hl : T.size ≤ 1048576
  · have hlen := memX_len T
    go_enter Try.func4, Try.ntmps4
    go_wp2_with fail
    refine (specMembersX T w hl).mono ?_
    rintro e w1 ⟨AW, cW, rfl, oW, b1⟩
    have OW := Own.of_new oW
    clear oW
    go_wp2_with fail
    refine (implMembersX T _ hl).mono ?_
    rintro e w2 ⟨AG, cG, rfl, oG, b2⟩
    have OG := Own.of_new oG
    have OW := OW.below b2
    have B2 := below_step b1 b2
    have s1 := b1.size
    clear oG b1 b2
    go_wp2_with fail
    refine (eqIntS_yes _ _ _ _ _ _ OG.il OW.il (by omega)).mono ?_
    rintro e w3 ⟨rfl, b3⟩
    have OG := OG.below b3
    have OW := OW.below b3
    have B3 := below_step B2 b3
    clear b3 B2
    go_wp2_with fail
    refine (mark_own _ _ _ 1 _ (by omega) _ OG (by omega) (by omega)).mono ?_
    rintro e w4 ⟨rfl, OG2, g4⟩
    have OW := OW.other OG g4 (by omega)
    have B4 := OG.keeps B3 (by omega) g4
    clear g4 B3 OG
    go_wp2_with fail
    refine (held_own _ _ 1 _ _ (by omega) _ OG2.il (by omega) (by omega)).mono ?_
    rintro e w' ⟨rfl, rfl⟩
    go_wp2_with fail
    refine (implMembersX T _ hl).mono ?_
    rintro e w5 ⟨AH, cH, rfl, oH, b5⟩
    have OW := OW.below b5
    have OG2 := OG2.below b5
    have B5 := below_step B4 b5
    clear b5 B4
    go_wp2_with fail
    refine (eqIntS_yes _ _ _ _ _ _ (IL.of_own oH).1 OW.il (by omega)).mono ?_
    rintro e w6 ⟨rfl, b6⟩
    have OG2 := OG2.below b6
    have B6 := below_step B5 b6
    clear b6 B5 oH OW
    go_wp2_with fail
    refine (held_own _ _ 1 _ _ (by omega) _ OG2.il (by omega) (by omega)).mono ?_
    rintro e w' ⟨rfl, rfl⟩
    clear OG2
    go_wp2
    go_ret
    exact ⟨rfl, B6⟩
  · go_enter Try.func4, Try.ntmps4
    go_wp2_with fail
    go_ret
    exact ⟨rfl, Below.refl _ _⟩

set_option maxRecDepth 100000 in
set_option maxHeartbeats 1600000 in
theorem walkExprSatE (T : ByteArray) (A : Option Addr) (c : Nat) (l : List Int) (w : World) (hmT : T.size ≤ maxLen) (ha : IL w A l) (hm : l.length ≤ maxLen) :
    Calls Try.prog 5 #[.string T, .slice A l.length c] w fun e w' => e = .returned (.bool true) ∧ Below w.heap.size w w' := by
  unfold maxLen at hm hmT
  by_cases hT : T.size ≤ 1048576
  · by_cases hl : l.length ≤ 1048576
    · go_enter Try.func5, Try.ntmps5
      go_wp2_with fail
      refine (toIntS_any _ _ _ _ ha hl).mono ?_
      rintro e w1 ⟨g1, rfl, o1, b1⟩
      go_wp2_with fail
      refine (specSatX T _ _ _ _ hT (IL.of_own o1).1 hl).mono ?_
      rintro e w2 ⟨rfl, b2⟩
      have b2' := below_step b1 b2
      clear o1 b1 b2
      go_wp2_with fail
      refine (toIntS_any _ _ _ _ (ha.below b2') hl).mono ?_
      rintro e w3 ⟨g3, rfl, o3, b3⟩
      have b3' := below_step b2' b3
      have i3 := (IL.of_own o3).1
      clear b3 o3
      go_wp2_with fail
      refine (implSatX T _ _ _ _ hT i3 hl).mono ?_
      rintro e w4 ⟨rfl, b4⟩
      have i4 := i3.below b4
      have b4' := below_step b3' b4
      clear i3 b4
      generalize satX T l = R at *
      have H : ∀ R : Bool, R = true ∨ R = false := by decide
      rcases H R with rfl | rfl
      · go_wp2_with fail
        refine (toIntS_any _ _ _ _ (ha.below b4') hl).mono ?_
        rintro e w5 ⟨g5, rfl, o5, b5⟩
        go_wp2_with fail
        refine (eqIntS_yes _ _ _ _ _ _ (i4.below b5) (IL.of_own o5).1 hl).mono ?_
        rintro e w6 ⟨rfl, b6⟩
        have b6' := below_step (below_step b4' b5) b6
        clear i4 o5 b5 b6
        go_wp2
        go_ret
        exact ⟨rfl, b6'⟩
      · go_wp2_with fail
        refine (toIntS_any _ _ _ _ (ha.below b4') hl).mono ?_
        rintro e w5 ⟨g5, rfl, o5, b5⟩
        go_wp2_with fail
        refine (eqIntS_yes _ _ _ _ _ _ (i4.below b5) (IL.of_own o5).1 hl).mono ?_
        rintro e w6 ⟨rfl, b6⟩
        have b6' := below_step (below_step b4' b5) b6
        clear i4 o5 b5 b6
        go_wp2
        go_ret
        exact ⟨rfl, b6'⟩
    · go_enter Try.func5, Try.ntmps5
      go_wp2_with fail
      go_ret
      exact ⟨rfl, Below.refl _ _⟩
  · go_enter Try.func5, Try.ntmps5
    go_wp2_with fail
    go_ret
    exact ⟨rfl, Below.refl _ _⟩
end Go.Proofs.Ytdfhglobfehpiaa
