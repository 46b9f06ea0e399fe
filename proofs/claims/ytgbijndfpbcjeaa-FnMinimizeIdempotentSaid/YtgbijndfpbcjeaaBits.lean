/- The bit sets of the program by their contracts. -/
import Derived.Test.YtgbijndfpbcjeaaCore
namespace Go.Proofs.Ytgbijndfpbcjeaa
open Go.RowKit

theorem or_u8 {s : Nat} {x : Int} (hs : s < 64) (h1 : 1 ≤ x) (h2 : x ≤ 6) : bits .or .u8 (s : Int) (2 ^ (x.toNat - 1) % 256) = ((s ||| 2 ^ (x.toNat - 1) : Nat) : Int) ∧ (s ||| 2 ^ (x.toNat - 1)) < 64 := by
  have H : ∀ s : Fin 64, ∀ n : Fin 6, bits .or .u8 (s.val : Int) (2 ^ n.val % 256) = ((s.val ||| 2 ^ n.val : Nat) : Int) ∧ (s.val ||| 2 ^ n.val) < 64 := by decide +kernel
  exact H ⟨s, hs⟩ ⟨x.toNat - 1, by omega⟩
theorem and_u8 {s : Nat} {x : Int} (hs : s < 64) (h1 : 1 ≤ x) (h2 : x ≤ 6) : (bits .and .u8 ((s : Int) / 2 ^ (x.toNat - 1)) 1 == 1) = Nat.testBit s (x.toNat - 1) := by
  have H : ∀ s : Fin 64, ∀ n : Fin 6, (bits .and .u8 ((s.val : Int) / 2 ^ n.val) 1 == 1) = Nat.testBit s.val n.val := by decide +kernel
  exact H ⟨s, hs⟩ ⟨x.toNat - 1, by omega⟩
theorem ret_int {k : IntKind} {a b : Int} (h : a = b) : Ending.returned (.int k a) = .returned (.int k b) := by rw [h]
theorem ret_bool {a b : Bool} (h : a = b) : Ending.returned (.bool a) = .returned (.bool b) := by rw [h]

set_option maxRecDepth 100000 in
set_option maxHeartbeats 400000 in
theorem with_any (s : Nat) (x : Int) (w : World) (hs : s < 64) (h1 : 1 ≤ x) (h2 : x ≤ 6) :
    Calls Try.prog 88 #[.int .u8 s, .int .i64 x] w fun e w' => e = .returned (.int .u8 (s ||| 2 ^ (x.toNat - 1) : Nat)) ∧ w = w' := by
  have HB := Lib.hid (or_u8 hs h1 h2).1
  go_enter Try.func88, Try.ntmps88
  go_wp2
  go_ret
  exact ⟨ret_int HB.out, rfl⟩
set_option maxRecDepth 100000 in
set_option maxHeartbeats 400000 in
theorem contains_in (s : Nat) (x : Int) (w : World) (hs : s < 64) (h1 : 1 ≤ x) (h2 : x ≤ 6) :
    Calls Try.prog 102 #[.int .u8 s, .int .i64 x] w fun e w' => e = .returned (.bool (Nat.testBit s (x.toNat - 1))) ∧ w = w' := by
  have HB := Lib.hid (and_u8 hs h1 h2)
  go_enter Try.func102, Try.ntmps102
  go_wp2
  go_ret
  exact ⟨ret_bool HB.out, rfl⟩
set_option maxRecDepth 100000 in
set_option maxHeartbeats 400000 in
theorem contains_out (s : Nat) (x : Int) (w : World) (h : x < 1 ∨ 6 < x) :
    Calls Try.prog 102 #[.int .u8 s, .int .i64 x] w fun e w' => e = .returned (.bool false) ∧ w = w' := by
  rcases h with h | h
  · have hd : decide (1 ≤ x) = false := by simp; omega
    go_enter Try.func102, Try.ntmps102
    go_wp2
    go_ret
    exact ⟨rfl, rfl⟩
  · have hd : decide (1 ≤ x) = true := by simp; omega
    have hd2 : decide (x ≤ 6) = false := by simp; omega
    go_enter Try.func102, Try.ntmps102
    go_wp2
    go_ret
    exact ⟨rfl, rfl⟩

theorem drop_at {l : List Int} {k : Nat} {x : Int} (h : l[k]? = some x) : l.drop k = x :: l.drop (k + 1) := by
  obtain ⟨hk, rfl⟩ := List.getElem?_eq_some_iff.1 h
  exact List.drop_eq_getElem_cons hk

set_option maxRecDepth 100000 in
set_option maxHeartbeats 800000 in
/-- A valid set has its mask. -/
theorem bitsOf_yes (A : Option Addr) (c : Nat) (l : List Int) (w : World) (ha : IL w A l) (hv : vld l = true) :
    Calls Try.prog 55 #[.slice A l.length c] w fun e w' => e = .returned (.tuple #[.int .u8 (msk l), .bool true]) ∧ w = w' := by
  have hl := vld_len hv
  have HV := Lib.hid hv
  clear hv
  go_enter Try.func55, Try.ntmps55
  go_wp2
  go_loop [4, 5, 10] (fun s p i => ∃ (k m : Nat) (q : Int), k ≤ l.length ∧ i = .int .i64 k ∧ s = .int .u8 (m : Int) ∧ p = .int .i64 q ∧ 0 ≤ q ∧ q ≤ 6 ∧ m < 64 ∧ Hid (vf q (l.drop k) = true) ∧ Hid (mk m (l.drop k) = msk l)) (fun _ _ i => l.length - (intOf i).toNat)
  case atStart => exact ⟨0, 0, 0, Nat.zero_le _, rfl, rfl, rfl, by omega, by omega, by omega, HV.out, rfl⟩
  case round =>
    obtain ⟨k, m, q, hk, rfl, rfl, rfl, hq0, hq6, hm, hvf, hmk⟩ := hrel
    by_cases hlt : k < l.length
    · obtain ⟨b, off, x, rfl, hx, hc⟩ := ha.at_ hlt
      have hd := drop_at hx
      have hvf' := hvf.out
      have hmk' := hmk.out
      rw [hd] at hvf' hmk'
      simp only [vf, Bool.and_eq_true, decide_eq_true_eq] at hvf'
      obtain ⟨⟨hqx, hx6⟩, hvf2⟩ := hvf'
      simp only [mk] at hmk'
      have H1 := Lib.hid hvf2
      have H2 := Lib.hid hmk'
      have hx1 : 1 ≤ x := by omega
      have H3 := Lib.hid (or_u8 hm hx1 hx6).2
      clear hx hd hvf2 hmk' hvf hmk
      go_wp2_with (go_at_call 88; refine (with_any _ _ _ hm hx1 hx6).mono ?_; rintro e w' ⟨rfl, rfl⟩)
      go_round
      case rel => exact ⟨k + 1, _, x, by omega, by go_num, rfl, rfl, by omega, hx6, H3.out, H1.out, H2.out⟩
      case measure => simp [intOf]; omega
    · have hkl : k = l.length := by omega
      subst hkl
      have hmk' := hmk.out
      simp only [List.drop_length, mk] at hmk'
      have H2 := Lib.hid hmk'
      clear hmk' hmk hvf
      go_wp2
      go_ret2
      exact ⟨by rw [← H2.out]; rfl, rfl⟩

set_option maxRecDepth 100000 in
set_option maxHeartbeats 800000 in
/-- Of an invalid set there is no mask. -/
theorem bitsOf_no (A : Option Addr) (c : Nat) (l : List Int) (w : World) (ha : IL w A l) (hv : vld l = false) (hl : l.length ≤ 1048576) :
    Calls Try.prog 55 #[.slice A l.length c] w fun e w' => e = .returned (.tuple #[.int .u8 0, .bool false]) ∧ w = w' := by
  have HV := Lib.hid hv
  clear hv
  go_enter Try.func55, Try.ntmps55
  go_wp2
  go_loop [4, 5, 10] (fun s p i => ∃ (k m : Nat) (q : Int), k ≤ l.length ∧ i = .int .i64 k ∧ s = .int .u8 (m : Int) ∧ p = .int .i64 q ∧ 0 ≤ q ∧ q ≤ 6 ∧ m < 64 ∧ Hid (vf q (l.drop k) = false)) (fun _ _ i => l.length - (intOf i).toNat)
  case atStart => exact ⟨0, 0, 0, Nat.zero_le _, rfl, rfl, rfl, by omega, by omega, by omega, HV.out⟩
  case round =>
    obtain ⟨k, m, q, hk, rfl, rfl, rfl, hq0, hq6, hm, hvf⟩ := hrel
    by_cases hlt : k < l.length
    · obtain ⟨b, off, x, rfl, hx, hc⟩ := ha.at_ hlt
      have hd := drop_at hx
      have hvf' := hvf.out
      rw [hd] at hvf'
      simp only [vf] at hvf'
      by_cases hqx : q < x
      · by_cases hx6 : x ≤ 6
        · simp only [hqx, hx6, decide_true, Bool.true_and] at hvf'
          have H1 := Lib.hid hvf'
          have hx1 : 1 ≤ x := by omega
          have H3 := Lib.hid (or_u8 hm hx1 hx6).2
          clear hx hd hvf' hvf
          go_wp2_with (go_at_call 88; refine (with_any _ _ _ hm hx1 hx6).mono ?_; rintro e w' ⟨rfl, rfl⟩)
          go_round
          case rel => exact ⟨k + 1, _, x, by omega, by go_num, rfl, rfl, by omega, hx6, H3.out, H1.out⟩
          case measure => simp [intOf]; omega
        · clear hx hd hvf' hvf
          go_wp2
          go_ret2
          exact ⟨rfl, rfl⟩
      · clear hx hd hvf' hvf
        go_wp2
        go_ret2
        exact ⟨rfl, rfl⟩
    · have hkl : k = l.length := by omega
      subst hkl
      have hvf' := hvf.out
      simp [vf] at hvf'

/-- The members below k. -/
def memTo (s k : Nat) : List Int := ((List.range (k - 1)).map fun i => ((i + 1 : Nat) : Int)).filter fun x => Nat.testBit s (x.toNat - 1)
theorem memTo_yes {s k : Nat} (hk : 1 ≤ k) (h : Nat.testBit s (k - 1) = true) : memTo s (k + 1) = memTo s k ++ [(k : Int)] := by
  obtain ⟨j, rfl⟩ : ∃ j, k = j + 1 := ⟨k - 1, by omega⟩
  simp only [Nat.add_sub_cancel] at h
  have e : (((j + 1 : Nat) : Int)).toNat - 1 = j := by omega
  simp only [memTo, Nat.add_sub_cancel, List.range_succ, List.map_append, List.map_cons, List.map_nil, List.filter_append, List.filter_cons, e, h, if_true, List.filter_nil]
theorem memTo_no {s k : Nat} (hk : 1 ≤ k) (h : Nat.testBit s (k - 1) = false) : memTo s (k + 1) = memTo s k := by
  obtain ⟨j, rfl⟩ : ∃ j, k = j + 1 := ⟨k - 1, by omega⟩
  simp only [Nat.add_sub_cancel] at h
  have e : (((j + 1 : Nat) : Int)).toNat - 1 = j := by omega
  simp [memTo, List.range_succ, List.filter_append, h]
theorem memTo_len (s k : Nat) : (memTo s k).length ≤ k - 1 := by
  refine Nat.le_trans (List.length_filter_le _ _) ?_
  simp
theorem memTo_all (s : Nat) : memTo s 7 = mem s := rfl

/-- A result in new memory: the slice reads as l, its row is the call's own. -/
def New (w : World) (l : List Int) (e : Ending) (w' : World) : Prop :=
  ∃ A c, e = .returned (.slice A l.length c) ∧ w'.ownsRow w.heap.size 3 1 (.slice A l.length c) l.length (l.map (Value.int .i64)) ∧ Below w.heap.size w w'
theorem own_slice {w : World} {base : Nat} {e : TypeId} {n : Nat} {v : Value} {xs : List Value} (h : w.ownsRow base e 1 v n xs) : ∃ A c, v = .slice A n c := by
  rcases h.2 with ⟨rfl, rfl⟩ | ⟨g, cap, cur, rfl, _⟩
  · exact ⟨_, _, rfl⟩
  · exact ⟨_, _, rfl⟩
theorem New.mk {w w' : World} {l : List Int} {v : Value} (h : w'.ownsRow w.heap.size 3 1 v l.length (l.map (Value.int .i64))) (hb : Below w.heap.size w w') : New w l (.returned v) w' := by
  obtain ⟨A, c, rfl⟩ := own_slice h
  exact ⟨A, c, rfl, h, hb⟩
theorem own_base {w : World} {base base' : Nat} {e : TypeId} {size n : Nat} {v : Value} {xs : List Value} (h : w.ownsRow base e size v n xs) (hb : base' ≤ base) : w.ownsRow base' e size v n xs := by
  refine ⟨h.1, ?_⟩
  rcases h.2 with h0 | ⟨g, cap, cur, hv, hg, rest⟩
  · exact .inl h0
  · exact .inr ⟨g, cap, cur, hv, by omega, rest⟩
theorem New.later {w w1 w2 : World} {l : List Int} {e : Ending} (hb : Below w.heap.size w w1) (h : New w1 l e w2) : New w l e w2 := by
  obtain ⟨A, c, he, ho, hb2⟩ := h
  exact ⟨A, c, he, own_base ho hb.size, below_step hb hb2⟩
theorem New.nil {w w' : World} (hb : Below w.heap.size w w') : New w [] (.returned (.slice none 0 0)) w' := ⟨none, 0, rfl, World.ownsRow_nil _ _ _ _, hb⟩
theorem New.made {w w1 : World} (hb : Below w.heap.size w w1) : New w [] (.returned (.slice (some ⟨w1.heap.size, 0, none⟩) 0 0)) (w1.alloc (.cells #[] 3)) :=
  ⟨_, 0, rfl, World.ownsRow_made w1 #[] 0 hb.size (Nat.zero_le _) rfl, hb.alloc hb.size _⟩
/-- A slice in new memory and true; or false and nothing. -/
def New2 (w : World) (l : List Int) (b : Bool) (e : Ending) (w' : World) : Prop :=
  ∃ A c, e = .returned (.tuple #[.slice A l.length c, .bool b]) ∧ w'.ownsRow w.heap.size 3 1 (.slice A l.length c) l.length (l.map (Value.int .i64)) ∧ Below w.heap.size w w'
/-- The numbers 1 to k - 1 that p holds of. -/
def upTo (p : Int → Bool) (k : Nat) : List Int := ((List.range (k - 1)).map fun i => ((i + 1 : Nat) : Int)).filter p
theorem upTo_yes {p : Int → Bool} {k : Nat} (hk : 1 ≤ k) (h : p (k : Int) = true) : upTo p (k + 1) = upTo p k ++ [(k : Int)] := by
  obtain ⟨j, rfl⟩ : ∃ j, k = j + 1 := ⟨k - 1, by omega⟩
  simp only [upTo, Nat.add_sub_cancel, List.range_succ, List.map_append, List.map_cons, List.map_nil, List.filter_append, List.filter_cons, h, if_true, List.filter_nil]
theorem upTo_no {p : Int → Bool} {k : Nat} (hk : 1 ≤ k) (h : p (k : Int) = false) : upTo p (k + 1) = upTo p k := by
  obtain ⟨j, rfl⟩ : ∃ j, k = j + 1 := ⟨k - 1, by omega⟩
  simp only [upTo, Nat.add_sub_cancel, List.range_succ, List.map_append, List.map_cons, List.map_nil, List.filter_append, List.filter_cons, h, List.filter_nil, List.append_nil, Bool.false_eq_true, if_false]
theorem upTo_len (p : Int → Bool) (k : Nat) : (upTo p k).length ≤ k - 1 := by
  refine Nat.le_trans (List.length_filter_le _ _) ?_
  simp
/-- The first k elements that p holds of. -/
def takeF (p : Int → Bool) (l : List Int) (k : Nat) : List Int := (l.take k).filter p
theorem takeF_yes {p : Int → Bool} {l : List Int} {k : Nat} {x : Int} (hx : l[k]? = some x) (h : p x = true) : takeF p l (k + 1) = takeF p l k ++ [x] := by
  simp [takeF, List.take_add_one, hx, List.filter_append, h]
theorem takeF_no {p : Int → Bool} {l : List Int} {k : Nat} {x : Int} (hx : l[k]? = some x) (h : p x = false) : takeF p l (k + 1) = takeF p l k := by
  simp [takeF, List.take_add_one, hx, List.filter_append, h]
theorem takeF_len (p : Int → Bool) (l : List Int) (k : Nat) : (takeF p l k).length ≤ k := Nat.le_trans (List.length_filter_le _ _) (List.length_take_le _ _)
theorem takeF_all (p : Int → Bool) (l : List Int) : takeF p l l.length = l.filter p := by simp [takeF]
/-- Behind an append of one number. -/
theorem app_one {w wr w1 : World} {v v' : Value} {o : Obj} {l : List Int} {x : Int} (hown : wr.ownsRow w.heap.size 3 1 v l.length (l.map (Value.int .i64))) (hb : Below w.heap.size w wr)
    (hown' : w1.ownsRow w.heap.size 3 1 v' (l.length + 1) (l.map (Value.int .i64) ++ [.int .i64 x])) (hg : (wr.alloc o).grownBy w1 v.ownBlock) :
    w1.ownsRow w.heap.size 3 1 v' (l ++ [x]).length ((l ++ [x]).map (Value.int .i64)) ∧ Below w.heap.size w w1 :=
  ⟨by simpa using hown', (hb.alloc hb.size o).grown hg (by have := hb.size; simp; omega) (fun k hk => (hown.lt k hk).1)⟩

set_option maxRecDepth 100000 in
set_option maxHeartbeats 800000 in
theorem members_any (s : Nat) (w : World) (hs : s < 64) :
    Calls Try.prog 77 #[.int .u8 s] w (New w (mem s)) := by
  obtain ⟨i0, hi0, hz0, hz1, hz2⟩ := info_parts int_info
  go_enter Try.func77, Try.ntmps77
  go_wp2
  go_loopw [3, 4] (fun v i wr => ∃ k : Nat, 1 ≤ k ∧ k ≤ 7 ∧ i = .int .i64 k ∧ wr.ownsRow w.heap.size 3 1 v (memTo s k).length ((memTo s k).map (Value.int .i64)) ∧ Below w.heap.size w wr) (fun _ i _ => 7 - (intOf i).toNat)
  case atStart => exact ⟨1, by omega, by omega, rfl, World.ownsRow_nil _ _ _ _, Below.refl _ _⟩
  case round =>
    obtain ⟨k, hk1, hk7, rfl, hown, hbel⟩ := hrel
    by_cases hlt : k < 7
    · have hln := memTo_len s k
      by_cases hbit : Nat.testBit s (k - 1) = true
      · have hbit2 : Nat.testBit s ((k : Int).toNat - 1) = true := by rw [Int.toNat_natCast]; exact hbit
        have HB := Lib.hid hbit
        have HB2 := Lib.hid hbit2
        clear hbit hbit2
        go_wp2_with (first
          | (go_at_call 102; refine (contains_in _ _ _ hs (by omega) (by omega)).mono ?_; rintro e w' ⟨rfl, rfl⟩; rw [HB2.out])
          | (at_builtin; refine wpList_append_own _ rfl (.tmp 12) (.tmp 14) 28 rfl w.heap.size 3 i0 (.int .i64 0) 1 8 Try.underlying28 hi0 hz0 hz1 hz2 rfl (by decide) _ _ _ rfl (hown.alloc _) ⟨wr.heap.size, 0, none⟩ 1 1 [.int .i64 k] rfl rfl (cell_one_new _ _ _) (ints_oneCell .i64 [(k : Int)]) (by unfold maxLen; omega) (by omega) (by have := hbel.size; simp; omega) ?_))
        intro v' w1 hown' hgrow _
        have R := app_one hown hbel hown' hgrow
        rw [← memTo_yes hk1 HB.out] at R
        have HR := Lib.hid R
        clear R hown hown' hgrow hbel
        go_wp2
        go_roundw
        case rel => exact ⟨k + 1, by omega, by omega, by go_num, HR.out.1, HR.out.2⟩
        case measure => simp [intOf]; omega
      · have hbit' : Nat.testBit s (k - 1) = false := by simpa using hbit
        have hbit2 : Nat.testBit s ((k : Int).toNat - 1) = false := by rw [Int.toNat_natCast]; exact hbit'
        have HB := Lib.hid hbit'
        have HB2 := Lib.hid hbit2
        clear hbit hbit' hbit2
        rw [← memTo_no hk1 HB.out] at hown
        have HO := Lib.hid hown
        clear hown
        go_wp2_with (go_at_call 102; refine (contains_in _ _ _ hs (by omega) (by omega)).mono ?_; rintro e w' ⟨rfl, rfl⟩; rw [HB2.out])
        go_roundw
        case rel => exact ⟨k + 1, by omega, by omega, by go_num, HO.out, hbel⟩
        case measure => simp [intOf]; omega
    · have hkl : k = 7 := by omega
      subst hkl
      rw [memTo_all] at hown
      have HN := Lib.hid (New.mk hown hbel)
      clear hown hbel
      go_wp2
      go_ret
      exact HN.out
end Go.Proofs.Ytgbijndfpbcjeaa
