/- Drawn lists of sets by their contracts. -/
import Derived.Test.YtmpcnefmlnkkjaaGf
import Derived.Test.YtmpcnefmlnkkjaaGd
import Derived.Test.YtmpcnefmlnkkjaaGa
namespace Go.Proofs.Ytmpcnefmlnkkjaa
open Go.RowKit

theorem Keep.one {w w' : World} {g : Nat} (h : w.grownBy w' (some g)) : Keep g (g + 1) w w' := Keep.of_grown h (fun k e => by injection e with e; omega)
theorem OSS.far {w w' : World} {lo hi c g : Nat} {A : Option Addr} {F : List (List Int)} (h : OSS w lo hi A c F) (hg : w.grownBy w' (some g)) (hlt : g < lo) : OSS w' lo hi A c F := h.keep (Keep.one hg) (.inr (by omega))
/-- A row is appended to rows of the call's own. -/
theorem oss_app {w3 w4 : World} {lo hi lo2 hi2 : Nat} {F : List (List Int)} {rs : List Value} {l : List Int} {x v v' : Value} {o : Obj} (hrows : Rws w3 lo hi F rs) (hx : RowAt w3 lo2 hi2 l x) (h1 : hi ≤ lo2) (h2 : lo ≤ lo2) (h3 : lo2 ≤ hi2)
    (hown : w3.ownsRow lo 28 1 v F.length rs) (ho : w4.ownsRow lo 28 1 v' (F.length + 1) (rs ++ [x])) (hg : (w3.alloc o).grownBy w4 v.ownBlock) :
    ∃ A c, v' = .slice A (F ++ [l]).length c ∧ OSS w4 lo w4.heap.size A c (F ++ [l]) := by
  have h4 : w4.ownsRow lo 28 1 v' (F ++ [l]).length (rs ++ [x]) := by simpa using ho
  obtain ⟨A, c, rfl⟩ := own_slice h4
  exact ⟨A, c, rfl, OSS.of_rows h4 (rows_app hrows hx h1 h2 h3 hown hg)⟩
theorem grown_app {w w3 w4 : World} {g n : Nat} {e : TypeId} {v : Value} {xs : List Value} {o : Obj} (h : w.grownBy w3 (some g)) (hown : w3.ownsRow w.heap.size e 1 v n xs) (hg : (w3.alloc o).grownBy w4 v.ownBlock) : w.grownBy w4 (some g) :=
  grown_new (grown_allocD h o) hg fun i hi => (hown.lt i hi).1
theorem rd_app {w w3 w4 : World} {g q n : Nat} {e : TypeId} {v : Value} {xs : List Value} {o : Obj} (hr : RdX w3 g q) (hlt : g < w.heap.size) (hown : w3.ownsRow w.heap.size e 1 v n xs) (hg : (w3.alloc o).grownBy w4 v.ownBlock) : RdX w4 g q :=
  (new_rd hr o).grown hg fun k hk => Nat.lt_of_lt_of_le hlt (hown.lt k hk).1
theorem short_snoc {F : List (List Int)} {l : List Int} {n : Nat} (h : Short F n) (hl : l.length ≤ n) : Short (F ++ [l]) n := short_app h (fun x hx => by simp at hx; subst hx; exact hl)
theorem allV_snoc {F : List (List Int)} {l : List Int} (h : allV F) (hl : vld l = true) : allV (F ++ [l]) := allV_app h (fun x hx => by simp at hx; subst hx; exact hl)
/-- A drawn list of sets. -/
def DrawnF (w : World) (g p : Nat) (e : Ending) (w' : World) : Prop :=
  ∃ (F : List (List Int)) (A : Option Addr) (c q : Nat), F.length ≤ 65 ∧ Short F 7 ∧ e = .returned (.slice A F.length c) ∧ OSS w' w.heap.size w'.heap.size A c F ∧ RdX w' g q ∧ q ≤ p + 60 ∧ w.grownBy w' (some g)
theorem OSS.hi {w : World} {lo hi hi2 c : Nat} {A : Option Addr} {F : List (List Int)} (h : OSS w lo hi A c F) (h1 : hi ≤ hi2) (h2 : hi2 ≤ w.heap.size) : OSS w lo hi2 A c F := by
  obtain ⟨rs, ho, hh, hb, hr⟩ := h
  exact ⟨rs, ho, h2, fun g hg => ⟨(hb g hg).1, Nat.lt_of_lt_of_le (hb g hg).2 h1⟩, hr.hi_le h1 h2⟩
theorem row_new {w : World} {cs : List Int} (hc : cs.length ≤ 7) : RowAt (w.alloc (.cells (cs.map (Value.int .i64)).toArray 3)) w.heap.size (w.heap.size + 1) cs (.slice (some ⟨w.heap.size, 0, none⟩) cs.length cs.length) := by
  have ho := World.ownsRow_lit (base := w.heap.size) (e := 3) (size := 1) w (cs.map (Value.int .i64)).toArray cs.length (Nat.le_refl _) (by unfold maxLen; omega) (by simp)
  refine ⟨_, _, rfl, by simpa using ho, by simp, fun g hg => ?_⟩
  cases hg
  exact ⟨Nat.le_refl _, Nat.lt_succ_self _⟩
theorem outM_len65 (M : List Nat) (b : Bool) : (outM M b).length ≤ 65 := Nat.le_trans (outM_len M b) (by omega)
theorem outM_short7 (M : List Nat) (b : Bool) : Short (outM M b) 7 := by
  unfold outM
  split
  · exact mems_short _ _ (by omega)
  · intro l hl; cases hl

/-- What the draws of quorum systems hand back. -/
def DrewF (w : World) (e : Ending) (w' : World) : Prop :=
  ∃ (F : List (List Int)) (A : Option Addr) (c : Nat), F.length ≤ 65 ∧ Short F 7 ∧ e = .returned (.slice A F.length c) ∧ ISS w' A F ∧ Below w.heap.size w w'
def DrewFS (w : World) (e : Ending) (w' : World) : Prop :=
  ∃ (F : List (List Int)) (s : List Int) (A B : Option Addr) (c d : Nat), F.length ≤ 65 ∧ Short F 7 ∧ s.length ≤ 7 ∧ e = .returned (.tuple #[.slice A F.length c, .slice B s.length d]) ∧ ISS w' A F ∧ IL w' B s ∧ Below w.heap.size w w'

/-- What the draw of a few sets hands back. -/
def DrewM (w : World) (e : Ending) (w' : World) : Prop :=
  ∃ (F : List (List Int)) (A : Option Addr) (c : Nat), F.length ≤ 5 ∧ Short F 7 ∧ e = .returned (.slice A F.length c) ∧ ISS w' A F ∧ Below w.heap.size w w'

set_option maxRecDepth 100000 in
set_option maxHeartbeats 3200000 in
theorem drawMin_any (A : Option Addr) (c : Nat) (l : List Int) (w : World) (ha : BL w A l) (hc : l.length ≤ c) (hm : l.length ≤ maxLen) (hmc : c ≤ maxLen) :
    Calls Try.prog 13 #[.slice A l.length c] w (DrewM w) := by
  obtain ⟨i0, hi0, hz0, hz1, hz2⟩ := info_parts slice_info
  go_enter Try.func13, Try.ntmps13
  go_wp2_with fail
  refine (l6Open_any _ _ _ _ ha hc hm hmc).mono ?_
  rintro e w1 ⟨rfl, hr1, b1⟩
  have hlt := hr1.lt
  have hbx : Below w1.heap.size w1 (w1.alloc (.cells #[] 28)) := (Below.refl _ w1).alloc (Nat.le_refl _) _
  have hrx := hr1.below hbx
  have hgx := World.grownBy_alloc w1 (.cells #[] 28) (some w.heap.size)
  have hx0 : (w1.alloc (.cells #[] 28)).ownsRow w1.heap.size 28 1 (.slice (some ⟨w1.heap.size, 0, none⟩) 0 0) 0 [] := World.ownsRow_made w1 #[] 0 (Nat.le_refl _) (by unfold maxLen; omega) (by simp)
  have ox : OSS (w1.alloc (.cells #[] 28)) w1.heap.size (w1.alloc (.cells #[] 28)).heap.size (some ⟨w1.heap.size, 0, none⟩) 0 [] := OSS.of_rows hx0 (Rws.nil _ _ _)
  clear hbx hx0 hr1 ha hc hm hmc
  go_wp2_with fail
  generalize w1.alloc (.cells #[] 28) = w3 at *
  refine (pickX _ _ 6 _ hrx (by omega) (by omega) (by omega)).mono ?_
  rintro e w4 ⟨x, x0, x1, rfl, hr4, hg4⟩
  obtain ⟨m, rfl⟩ := Int.eq_ofNat_of_zero_le x0
  have H0 := Lib.hid (And.intro (ox.far hg4 hlt) (And.intro hr4 (grown_trans hgx hg4)))
  clear ox hrx hgx hr4 hg4
  go_wp2
  go_loopw [4, 5] (fun v i wr => ∃ (F : List (List Int)) (n q : Nat) (A : Option Addr) (c hi : Nat), i = .int .i64 n ∧ v = .slice A F.length c ∧ n + F.length ≤ 5 ∧ Short F 7 ∧ OSS wr w1.heap.size hi A c F ∧ RdX wr w.heap.size q ∧ q + 4 * n ≤ 21 ∧ w1.grownBy wr (some w.heap.size)) (fun _ i _ => (intOf i).toNat)
  case atStart => exact ⟨[], m, 0 + 1, _, _, _, rfl, rfl, by simp; omega, (fun l hl => by cases hl), H0.out.1, H0.out.2.1, by omega, H0.out.2.2⟩
  case round =>
    clear H0
    obtain ⟨F, n, q, A, c, hi, rfl, rfl, hnl, hS, ho, hrd, hq, hgr⟩ := hrel
    cases n with
    | succ n =>
      have hn0 : (0 : Int) < ((n + 1 : Nat) : Int) := by omega
      have hn1 : ((n + 1 : Nat) : Int) - 1 = (n : Int) := by omega
      have hgw : w.heap.size < wr.heap.size := Nat.lt_of_lt_of_le hlt hgr.size
      go_wp2_with fail
      refine (l91Set_any _ _ _ hrd (by omega)).mono ?_
      rintro e w5 ⟨s, A5, c5, q5, hs7, rfl, o5, hr5, hq5, hg5⟩
      have hi5 := ho.hi_le
      have ho5 := ho.far hg5 hlt
      have hgr5 := grown_trans hgr hg5
      have hw5 := hgr.size
      have hb5s := hg5.size
      clear ho hrd hgr hg5
      by_cases hs0 : s.length = 0
      · obtain rfl : s = [] := List.eq_nil_of_length_eq_zero hs0
        simp only [List.length_nil] at hs7 o5 ⊢
        clear hs0
        go_wp2_with fail
        refine (pickX _ _ 20 _ hr5 (by omega) (by omega) (by omega)).mono ?_
        rintro e w6 ⟨y, y0, y1, rfl, hr6, hg6⟩
        have ho6 := ho5.far hg6 hlt
        have hgr6 := grown_trans hgr5 hg6
        have o6 := kept_far o5 hg6 hgw
        have hb6s := hg6.size
        clear ho5 hr5 hgr5 hg6 o5
        by_cases hy0 : y = 0
        · have hy0b : (y == 0) = true := by simpa using hy0
          clear hy0
          have HX := Lib.hid (show RowAt w6 wr.heap.size w6.heap.size [] (.slice A5 0 c5) from ⟨_, _, rfl, Own.of_new o6⟩)
          obtain ⟨rs, hown, hh, hbk, hrw⟩ := ho6
          have HRW := Lib.hid hrw
          have hwW := hgr6.size
          clear hrw hbk o6
          go_wp2_with (at_builtin; refine wpList_append_own _ rfl (.tmp 26) (.tmp 28) 23 rfl w1.heap.size 28 i0 (.slice none 0 0) 1 24 Try.underlying23 hi0 hz0 hz1 hz2 rfl (by decide) _ _ _ rfl (hown.alloc _) ⟨w6.heap.size, 0, none⟩ 1 1 [.slice A5 0 c5] rfl rfl (cell_one_new _ _ _) (slice_oneCell _ _ _) (by unfold maxLen; omega) (by omega) (by simp; omega) ?_)
          intro v7 w7 ho7 hg7 _
          obtain ⟨A7, c7, rfl, os7⟩ := oss_app HRW.out HX.out hi5 hw5 (by omega) hown ho7 hg7
          have R := Lib.hid (And.intro os7 (And.intro (rd_app hr6 hlt hown hg7) (And.intro (grown_app hgr6 hown hg7) (short_snoc (l := []) hS (Nat.zero_le _)))))
          have hFl : (F ++ [[]]).length = F.length + 1 := by simp
          clear os7 ho7 hg7 hown HRW HX hr6 hgr6 hS
          generalize F ++ [[]] = F2 at *
          go_wp2
          go_roundw
          case rel => exact ⟨F2, n, q5 + 1, A7, c7, _, by go_num, rfl, by omega, R.out.2.2.2, R.out.1, R.out.2.1, by omega, R.out.2.2.1⟩
          case measure => simp [intOf]
        · have hy0b : (y == 0) = false := by simpa using hy0
          clear hy0
          go_wp2
          go_roundw
          case rel => exact ⟨F, n, q5 + 1, A, c, hi, by go_num, rfl, by omega, hS, ho6, hr6, by omega, hgr6⟩
          case measure => simp [intOf]
      · have hs0b : decide ((0 : Int) < (s.length : Int)) = true := decide_eq_true (by omega)
        have HX := Lib.hid (show RowAt w5 wr.heap.size w5.heap.size s (.slice A5 s.length c5) from ⟨_, _, rfl, Own.of_new o5⟩)
        obtain ⟨rs, hown, hh, hbk, hrw⟩ := ho5
        have HRW := Lib.hid hrw
        have hwW := hgr5.size
        clear hrw hbk o5
        go_wp2_with (at_builtin; refine wpList_append_own _ rfl (.tmp 26) (.tmp 28) 23 rfl w1.heap.size 28 i0 (.slice none 0 0) 1 24 Try.underlying23 hi0 hz0 hz1 hz2 rfl (by decide) _ _ _ rfl (hown.alloc _) ⟨w5.heap.size, 0, none⟩ 1 1 [.slice A5 s.length c5] rfl rfl (cell_one_new _ _ _) (slice_oneCell _ _ _) (by unfold maxLen; omega) (by omega) (by simp; omega) ?_)
        intro v7 w7 ho7 hg7 _
        obtain ⟨A7, c7, rfl, os7⟩ := oss_app HRW.out HX.out hi5 hw5 (by omega) hown ho7 hg7
        have R := Lib.hid (And.intro os7 (And.intro (rd_app hr5 hlt hown hg7) (And.intro (grown_app hgr5 hown hg7) (short_snoc hS hs7))))
        have hFl : (F ++ [s]).length = F.length + 1 := by simp
        clear os7 ho7 hg7 hown HRW HX hr5 hgr5 hS
        generalize F ++ [s] = F2 at *
        go_wp2
        go_roundw
        case rel => exact ⟨F2, n, q5, A7, c7, _, by go_num, rfl, by omega, R.out.2.2.2, R.out.1, R.out.2.1, by omega, R.out.2.2.1⟩
        case measure => simp [intOf]
    | zero =>
      have D := Lib.hid (show DrewM w (.returned (.slice A F.length c)) wr from ⟨F, A, c, by omega, hS, rfl, ho.iss, b1.grown hgr b1.size (fun k hk => by injection hk with hk; omega)⟩)
      clear ho hrd hgr
      go_wp2
      go_ret
      exact D.out
end Go.Proofs.Ytmpcnefmlnkkjaa
