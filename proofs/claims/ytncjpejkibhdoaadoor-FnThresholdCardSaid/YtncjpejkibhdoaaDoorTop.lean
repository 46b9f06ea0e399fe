/- Depth, members and satisfaction of texts: program and model by their contracts; the walks of the exact laws. -/
import Derived.Test.YtncjpejkibhdoaaDoorSpecY
import Derived.Test.YtncjpejkibhdoaaDoorSatI
import Derived.Test.YtncjpejkibhdoaaDoorSpecV
import Derived.Test.YtncjpejkibhdoaaDoorOwn
namespace Go.Proofs.YtncjpejkibhdoaaDoor
open Go.RowKit

def depR (T : ByteArray) : Int := match pT0 T with | none => -1 | some x => (dep x : Int)
def memX (T : ByteArray) : List Int := match pT0 T with | none => [] | some x => mem (ms x)
def satX (T : ByteArray) (l : List Int) : Bool := match pT0 T with | none => false | some x => vld l && sat (msk l) x
theorem memX_len (T : ByteArray) : (memX T).length ≤ 6 := by unfold memX; split; simp; exact mem_len _
set_option maxRecDepth 100000 in
set_option maxHeartbeats 1600000 in
theorem implDepthX (T : ByteArray) (w : World) (hT : T.size ≤ 1048576) : Calls Tryd.prog 13 #[.string T] w fun e w' => e = .returned (.int .i64 (depR T)) ∧ Below w.heap.size w w' := by
  go_enter Tryd.func13, Tryd.ntmps13
  go_wp2_with fail
  refine (parse_any T w hT).mono ?_
  rintro e w1 ⟨b1, ⟨hn, rfl⟩ | ⟨x, v, hs, rfl, ht⟩⟩
  · have HP := Lib.hid (show depR T = -1 by simp [depR, hn])
    clear hn
    go_wp2_with fail
    go_ret
    exact ⟨ret_int HP.out.symm, b1⟩
  · have HP := Lib.hid (show depR T = (dep x : Int) by simp [depR, hs])
    obtain ⟨_, hw, hl⟩ := bx_of hs
    have HC := Lib.hid (depthOf_any 40 x v _ w1 hl (by omega) hw ht)
    clear hs ht hw
    go_wp2_with (go_at_call 29; refine HC.out.mono ?_; rintro e w' ⟨rfl, rfl⟩)
    go_ret
    exact ⟨ret_int HP.out.symm, b1⟩
set_option maxRecDepth 100000 in
set_option maxHeartbeats 1600000 in
theorem implMembersX (T : ByteArray) (w : World) (hT : T.size ≤ 1048576) : Calls Tryd.prog 12 #[.string T] w (New w (memX T)) := by
  go_enter Tryd.func12, Tryd.ntmps12
  go_wp2_with fail
  refine (parse_any T w hT).mono ?_
  rintro e w1 ⟨b1, ⟨hn, rfl⟩ | ⟨x, v, hs, rfl, ht⟩⟩
  · have HP := Lib.hid (show memX T = [] by simp [memX, hn])
    clear hn
    go_wp2_with fail
    go_ret
    rw [HP.out]
    exact New.nil b1
  · have HP := Lib.hid (show memX T = mem (ms x) by simp [memX, hs])
    obtain ⟨_, hw, hl⟩ := bx_of hs
    have HC := Lib.hid (membersOf_any 40 x v _ w1 hl hw ht)
    have hm := ms_lt x hw
    clear hs ht hw
    go_wp2_with (go_at_call 28; refine HC.out.mono ?_; rintro e w' ⟨rfl, rfl⟩)
    refine (members_any _ _ hm).mono ?_
    rintro e w2 h2
    have HN := Lib.hid (h2.later b1)
    obtain ⟨A, c, rfl, _, _⟩ := h2
    clear HC b1
    go_wp2_with fail
    go_ret
    rw [HP.out]
    exact HN.out
set_option maxRecDepth 100000 in
set_option maxHeartbeats 1600000 in
theorem implSatX (T : ByteArray) (A : Option Addr) (c : Nat) (l : List Int) (w : World) (hT : T.size ≤ 1048576) (ha : IL w A l) (hl : l.length ≤ 1048576) :
    Calls Tryd.prog 9 #[.string T, .slice A l.length c] w fun e w' => e = .returned (.bool (satX T l)) ∧ Below w.heap.size w w' := by
  go_enter Tryd.func9, Tryd.ntmps9
  go_wp2_with fail
  refine (parse_any T w hT).mono ?_
  rintro e w1 ⟨b1, ⟨hn, rfl⟩ | ⟨x, v, hs, rfl, ht⟩⟩
  · have HP := Lib.hid (show satX T l = false by simp [satX, hn])
    have ha1 := ha.below b1
    clear hn ha
    cases hv : vld l with
    | false =>
      have HC := Lib.hid (bitsOf_no A c l w1 ha1 hv hl)
      clear hv
      go_wp2_with (go_at_call 22; refine HC.out.mono ?_; rintro e w' ⟨rfl, rfl⟩)
      go_ret
      exact ⟨ret_bool HP.out.symm, b1⟩
    | true =>
      have HC := Lib.hid (bitsOf_yes A c l w1 ha1 hv)
      clear hv
      go_wp2_with (go_at_call 22; refine HC.out.mono ?_; rintro e w' ⟨rfl, rfl⟩)
      go_ret
      exact ⟨ret_bool HP.out.symm, b1⟩
  · have ha1 := ha.below b1
    obtain ⟨_, hw, hxl⟩ := bx_of hs
    cases hv : vld l with
    | false =>
      have HP := Lib.hid (show satX T l = false by simp [satX, hs, hv])
      have HC := Lib.hid (bitsOf_no A c l w1 ha1 hv hl)
      obtain ⟨t, a, rfl⟩ := ht.form
      clear hv hs ht hw ha
      go_wp2_with (go_at_call 22; refine HC.out.mono ?_; rintro e w' ⟨rfl, rfl⟩)
      go_ret
      exact ⟨ret_bool HP.out.symm, b1⟩
    | true =>
      have HC := Lib.hid (bitsOf_yes A c l w1 ha1 hv)
      have hm := msk_lt hv
      have HP := Lib.hid (show satX T l = sat (msk l) x by simp [satX, hs, hv])
      clear hv hs ha
      generalize msk l = s at *
      cases x with
      | mem m =>
        have ht' := ht
        simp only [Tr] at ht'
        obtain ⟨b, rfl, _, _⟩ := ht'
        have hm1 := m_sat_mem
        have HD := Lib.hid (satMem_any s hm m b _ w1 hw ht)
        clear ht hw ha1
        go_wp2_with (first
          | (go_at_call 22; refine HC.out.mono ?_; rintro e w' ⟨rfl, rfl⟩)
          | (go_at_call 77; refine HD.out.mono ?_; rintro e w' ⟨rfl, rfl⟩)
          | fail)
        go_ret
        exact ⟨ret_bool HP.out.symm, b1⟩
      | thr k es =>
        have ht' := ht
        simp only [Tr] at ht'
        obtain ⟨b, _, _, _, rfl, _⟩ := ht'
        have hm1 := m_sat_thr
        have HD := Lib.hid (satThr_any s hm 40 k es b _ w1 hxl hw ht)
        clear ht hw ha1
        go_wp2_with (first
          | (go_at_call 22; refine HC.out.mono ?_; rintro e w' ⟨rfl, rfl⟩)
          | (go_at_call 75; refine HD.out.mono ?_; rintro e w' ⟨rfl, rfl⟩)
          | fail)
        go_ret
        exact ⟨ret_bool HP.out.symm, b1⟩
end Go.Proofs.YtncjpejkibhdoaaDoor
