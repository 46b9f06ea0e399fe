/- Laws on drawn expressions: validity, depth, wrapping. -/
import Derived.Test.YtdfhglobfehpiaaDrawE
import Derived.Test.YtdfhglobfehpiaaTop
namespace Go.Proofs.Ytdfhglobfehpiaa
open Go.RowKit

theorem data_app (a b : ByteArray) : (a ++ b).data.toList = a.data.toList ++ b.data.toList := by simp [ByteArray.data_append]
theorem pT0_of {T : ByteArray} {x : Ex} (h : T.data.toList = tx x) (hw : wf x) (hl : T.size ≤ 40) : pT0 T = some x := by
  unfold pT0
  rw [h]
  exact pX_tx hw (by rw [← h]; simpa using hl)
theorem pT0_tx {T : ByteArray} {x : Ex} (h : pT0 T = some x) : T.data.toList = tx x ∧ wf x := ⟨(pX_some h).1, (pX_some h).2.1⟩
theorem wrapT {T : ByteArray} {x : Ex} (h : pT0 T = some x) (hl : T.size + 3 ≤ 40) : pT0 (⟨#[49, 40]⟩ ++ T ++ ⟨#[41]⟩) = some (.thr 1 [x]) := by
  obtain ⟨h1, h2⟩ := pT0_tx h
  refine pT0_of ?_ ?_ ?_
  · rw [data_app, data_app, h1]
    simp only [tx, txL, txT]
    rfl
  · simp [wf, wfL, h2]
  · rw [ByteArray.size_append, ByteArray.size_append]
    show 2 + T.size + 1 ≤ 40
    omega
theorem moreT {T : ByteArray} {x : Ex} (h : pT0 T = some x) : pT0 (T ++ ⟨#[49]⟩) = none := by
  obtain ⟨h1, h2⟩ := pT0_tx h
  by_cases hl : (T ++ ⟨#[49]⟩ : ByteArray).size ≤ 40
  · rw [pT0_small hl, data_app, h1]
    have hs : (tx x).length ≤ 39 := by
      rw [ByteArray.size_append] at hl
      have : (⟨#[49]⟩ : ByteArray).size = 1 := rfl
      have h3 : T.size = (tx x).length := by rw [← h1]; simp
      omega
    have := (p_full 81).1 x [49] h2 (fun c t e => by injection e with e; rw [← e]; decide) (by omega)
    rw [show (⟨#[49]⟩ : ByteArray).data.toList = [49] from rfl, this]
  · exact pT0_big (by omega)
theorem txT_last (es : List Ex) : ∃ t, txT es = t ++ [41] := by
  induction es with
  | nil => exact ⟨[], by simp [txT]⟩
  | cons e es ih =>
    obtain ⟨t, ht⟩ := ih
    exact ⟨44 :: (tx e ++ t), by rw [txT_cons, txL_cons, ht]; simp⟩
theorem lessT {T : ByteArray} {x : Ex} (h : pT0 T = some x) (hs : T.size ≠ 1) : pT0 (T.extract 0 (T.size - 1)) = none := by
  obtain ⟨h1, h2⟩ := pT0_tx h
  have h40 := pT0_40 h
  have hsz : T.size = (tx x).length := by rw [← h1]; simp
  cases x with
  | mem m => exfalso; apply hs; rw [hsz]; simp [tx]
  | thr k es =>
    cases hp : pT0 (T.extract 0 (T.size - 1)) with
    | none => rfl
    | some y =>
      exfalso
      obtain ⟨y1, y2⟩ := pT0_tx hp
      have hd : (T.extract 0 (T.size - 1)).data.toList = (tx (.thr k es)).take (T.size - 1) := by
        rw [← h1]; simp [ByteArray.data_extract, List.dropLast_eq_take]
      rw [y1] at hd
      obtain ⟨t, ht⟩ : ∃ t, tx (.thr k es) = t ++ [41] := by
        cases es with
        | nil => simp only [wf] at h2; simp at h2; omega
        | cons e es =>
          obtain ⟨t, ht⟩ := txT_last es
          exact ⟨dg k :: 40 :: (tx e ++ t), by simp only [tx]; rw [txL_cons, ht]; simp⟩
      have hty : tx y = t := by
        rw [hd, ht, hsz, ht]; simp
      have e1 := (p_full 81).1 (.thr k es) [] h2 (fun c t e => by cases e) (by omega)
      rw [List.append_nil, ht, ← hty] at e1
      have e2 := (p_full 81).1 y [41] y2 (fun c t e => by injection e with e; rw [← e]; decide) (by
        have : (tx y).length + 1 = (tx (.thr k es)).length := by rw [ht, hty]; simp
        omega)
      rw [e2] at e1
      injection e1 with e1
      injection e1 with _ e1
      cases e1
theorem ok_no {T : ByteArray} (h : pT0 T = none) : okX T = false := by simp [okX, h]
theorem ok_yes {T : ByteArray} {x : Ex} (h : pT0 T = some x) : okX T = true := by simp [okX, h]
theorem dep_wrap (x : Ex) : dep (.thr 1 [x]) = dep x + 1 := by simp [dep, depL]; omega
theorem sat_wrap (s : Nat) (x : Ex) : sat s (.thr 1 [x]) = sat s x := by
  cases h : sat s x <;> simp [sat, satL, h]
theorem dep_zero {x : Ex} (h : wf x) : dep x = 0 ↔ (tx x).length = 1 := by
  cases x with
  | mem m => simp [dep, tx]
  | thr k es =>
    cases es with
    | nil => simp only [wf] at h; simp at h; omega
    | cons e es => simp only [dep, depL, tx, List.length_cons]; omega

/-- A drawn text. -/
def Text (w : World) (e : Ending) (w' : World) : Prop := (∃ t : ByteArray, t.size ≤ 100 ∧ e = .returned (.string t)) ∧ Below w.heap.size w w'
def TextSet (w : World) (e : Ending) (w' : World) : Prop :=
  (∃ (t : ByteArray) (l : List Int) (A : Option Addr) (c : Nat), t.size ≤ 100 ∧ l.length ≤ 7 ∧ e = .returned (.tuple #[.string t, .slice A l.length c]) ∧ IL w' A l) ∧ Below w.heap.size w w'
theorem rd_below {w w1 w2 : World} (h : Below w.heap.size w w1) (hg : w1.grownBy w2 (some w.heap.size)) : Below w.heap.size w w2 := h.grown hg h.size (fun k hk => by injection hk with hk; omega)

set_option maxRecDepth 100000 in
set_option maxHeartbeats 1600000 in
theorem drawDepth_any (A : Option Addr) (c : Nat) (l : List Int) (w : World) (ha : BL w A l) (hc : l.length ≤ c) (hm : l.length ≤ maxLen) (hmc : c ≤ maxLen) :
    Calls Try.prog 27 #[.slice A l.length c] w (Text w) := by
  go_enter Try.func27, Try.ntmps27
  go_wp2_with fail
  refine (l6Open_any _ _ _ _ ha hc hm hmc).mono ?_
  rintro e w1 ⟨rfl, hr1, b1⟩
  go_wp2_with fail
  refine (l91Expr_any _ _ _ hr1 (by omega)).mono ?_
  rintro e w2 ⟨t, q, _, ht, rfl, hr2, hq, g2⟩
  have B2 := rd_below b1 g2
  clear b1 g2 hr1 hr2 ha
  go_wp2_with fail
  go_ret
  exact ⟨⟨t, by omega, rfl⟩, B2⟩
set_option maxRecDepth 100000 in
set_option maxHeartbeats 1600000 in
theorem drawDual_any (A : Option Addr) (c : Nat) (l : List Int) (w : World) (ha : BL w A l) (hc : l.length ≤ c) (hm : l.length ≤ maxLen) (hmc : c ≤ maxLen) :
    Calls Try.prog 29 #[.slice A l.length c] w (Text w) := by
  go_enter Try.func29, Try.ntmps29
  go_wp2_with fail
  refine (l6Open_any _ _ _ _ ha hc hm hmc).mono ?_
  rintro e w1 ⟨rfl, hr1, b1⟩
  go_wp2_with fail
  refine (l91Expr_any _ _ _ hr1 (by omega)).mono ?_
  rintro e w2 ⟨t, q, _, ht, rfl, hr2, hq, g2⟩
  have B2 := rd_below b1 g2
  clear b1 g2 hr1 hr2 ha
  go_wp2_with fail
  go_ret
  exact ⟨⟨t, by omega, rfl⟩, B2⟩
set_option maxRecDepth 100000 in
set_option maxHeartbeats 1600000 in
theorem drawSat_any (A : Option Addr) (c : Nat) (l : List Int) (w : World) (ha : BL w A l) (hc : l.length ≤ c) (hm : l.length ≤ maxLen) (hmc : c ≤ maxLen) :
    Calls Try.prog 28 #[.slice A l.length c] w (TextSet w) := by
  go_enter Try.func28, Try.ntmps28
  go_wp2_with fail
  refine (l6Open_any _ _ _ _ ha hc hm hmc).mono ?_
  rintro e w1 ⟨rfl, hr1, b1⟩
  go_wp2_with fail
  refine (l91Expr_any _ _ _ hr1 (by omega)).mono ?_
  rintro e w2 ⟨t, q, _, ht, rfl, hr2, hq, g2⟩
  have B2 := rd_below b1 g2
  clear b1 g2 hr1 ha
  go_wp2_with fail
  refine (l91Set_any _ _ _ hr2 (by omega)).mono ?_
  rintro e w3 ⟨s, A3, c3, q3, hs7, rfl, o3, _, _, g3⟩
  have B3 := rd_below B2 g3
  have i3 := (IL.of_own o3).1
  clear B2 g3 o3 hr2
  go_wp2_with fail
  go_ret2
  exact ⟨⟨t, s, A3, c3, by omega, hs7, rfl, i3⟩, B3⟩

def marksV : List ByteArray := [⟨#[49]⟩, ⟨#[40]⟩, ⟨#[41]⟩, ⟨#[44]⟩, ⟨#[55]⟩]
theorem catC {n z x : Nat} (hn : n ≤ z) (hz : z ≤ 60) (hx : x ≤ 1) : ¬ 9223372036854775807 < n + x := by omega
theorem catD {n z x : Nat} (hn : n ≤ z) (hz : z ≤ 60) (hx : x ≤ 1) : ¬ 9223372036854775807 < n + x + (z - n) := by omega
theorem kcB {a W W' : World} (hg : W.grownBy W' (some a.heap.size)) (h : Below a.heap.size a W) : Below a.heap.size a W' := h.grown hg h.size (fun k e => by injection e with e; omega)
set_option maxRecDepth 100000 in
set_option maxHeartbeats 3200000 in
theorem drawValid_any (A : Option Addr) (c : Nat) (l : List Int) (w : World) (ha : BL w A l) (hc : l.length ≤ c) (hm : l.length ≤ maxLen) (hmc : c ≤ maxLen) :
    Calls Try.prog 26 #[.slice A l.length c] w (Text w) := by
  go_enter Try.func26, Try.ntmps26
  go_wp2_with fail
  refine (l6Open_any _ _ _ _ ha hc hm hmc).mono ?_
  rintro e w1 ⟨rfl, hr1, b1⟩
  go_wp2_with fail
  refine (l91Expr_any _ _ _ hr1 (by omega)).mono ?_
  rintro e w2 ⟨t, q, _, ht, rfl, hr2, hq, g2⟩
  have B2 := rd_below b1 g2
  clear b1 g2 hr1 ha
  go_wp2_with fail
  refine (pickX _ _ 3 _ hr2 (by omega) (by omega) (by omega)).mono ?_
  rintro e w3 ⟨z, z0, z1, rfl, hr3, g3⟩
  have B3 := rd_below B2 g3
  clear B2 g3 hr2
  by_cases hz : z = 0
  · have hzb : (z == 0) = true := by simpa using hz
    clear hz
    go_wp2_with fail
    refine (pickX _ _ ((t.size : Int) + 1) _ hr3 (by omega) (by omega) (by omega)).mono ?_
    rintro e w4 ⟨y, y0, y1, rfl, hr4, g4⟩
    obtain ⟨n, rfl⟩ := Int.eq_ofNat_of_zero_le y0
    have hn : n ≤ t.size := by omega
    have B4 := rd_below B3 g4
    clear B3 g4 hr3
    have hn0 : (0 : Int) ≤ (n : Int) := by omega
    have hn1 : (n : Int) ≤ (t.size : Int) := by omega
    have hqb : q + 1 + 1 ≤ 900000 := by omega
    have hlt4 := hr4.lt
    have hr4' : RdX (w4.alloc (.cells (marksV.map Value.string).toArray 9)).drew w.heap.size (q + 1 + 1) := hr4.below (((Below.refl _ _).alloc (Nat.le_refl _) _).drew)
    have hb4 : Texts (w4.alloc (.cells (marksV.map Value.string).toArray 9)).drew w4.heap.size 5 0 1 := texts_new w4 marksV 0 1 (by decide)
    have h16 : 1 ≤ 5 := by decide
    have h61 : 5 ≤ 1000 := by decide
    clear hr4
    go_wp2
    go_region_held3 (fun w' => Below w.heap.size w w')
      (first | assumption | exact B4.drew | exact (B4.alloc B4.size _).drew | (apply kcB g6; assumption) | fail)
      (first
        | (go_at_call 45; refine (ofX w.heap.size (q + 1 + 1) w4.heap.size 5 0 1 _ hr4' hqb hb4 hlt4 h16 h61).mono ?_; rintro e w6 ⟨xs, q6, lo6, hx1, rfl, hr6, hq6, g6⟩; have f1 := catC hn ht hx1; have f2 := catD hn ht hx1)
        | fail)
    all_goals go_wp2
    all_goals go_ret
    all_goals exact ⟨⟨_, by simp [ByteArray.size_append, ByteArray.size_extract]; omega, rfl⟩, by assumption⟩
  · have hzb : (z == 0) = false := by simpa using hz
    clear hz hr3
    go_wp2_with fail
    go_ret
    exact ⟨⟨t, by omega, rfl⟩, B3⟩

set_option maxRecDepth 100000 in
set_option maxHeartbeats 3200000 in
theorem walkDepth (A : Option Addr) (c : Nat) (l : List Int) (w : World) (ha : BL w A l) (hc : l.length ≤ c) (hm : l.length ≤ maxLen) (hmc : c ≤ maxLen) :
    Calls Try.prog 9 #[.slice A l.length c] w fun e w' => e = .returned (.bool true) ∧ Below w.heap.size w w' := by
  have hm' := hm
  unfold maxLen at hm'
  by_cases hl : l.length ≤ 1048576
  · go_enter Try.func9, Try.ntmps9
    go_wp2_with fail
    refine (drawDepth_any _ _ _ _ ha hc hm hmc).mono ?_
    rintro e w1 ⟨⟨T, hT, rfl⟩, B1⟩
    clear ha hm
    have hT2 : T.size ≤ 1048576 := by omega
    go_wp2_with fail
    refine (implDepthX T _ hT2).mono ?_
    rintro e w2 ⟨rfl, b2⟩
    have B2 := below_step B1 b2
    clear B1 b2
    go_wp2_with fail
    refine (specDepthX T _ hT2).mono ?_
    rintro e w3 ⟨rfl, b3⟩
    have B3 := below_step B2 b3
    clear B2 b3
    cases hp : pT0 T with
    | none =>
      have hR : depR T = -1 := by simp [depR, hp]
      have hok := ok_no hp
      rw [hR]
      clear hp
      go_wp2_with fail
      refine (specDepthX T _ hT2).mono ?_
      rintro e w4 ⟨rfl, b4⟩
      have B4 := below_step B3 b4
      clear B3 b4
      rw [hR]
      go_wp2_with fail
      refine (implValidX T _ hT2).mono ?_
      rintro e w5 ⟨rfl, b5⟩
      have B5 := below_step B4 b5
      clear B4 b5
      rw [hok]
      go_wp2_with fail
      go_ret
      exact ⟨rfl, B5⟩
    | some x =>
      have hR : depR T = (dep x : Int) := by simp [depR, hp]
      obtain ⟨hx1, hx2⟩ := pT0_tx hp
      have hsz : T.size = (tx x).length := by rw [← hx1]; simp
      have hdz := dep_zero hx2
      have hdl := dep_len x
      have h40 := pT0_40 hp
      have heq : (((dep x : Nat) : Int) == 0) = ((T.size : Int) == 1) := by
        rw [hsz]
        by_cases h0 : dep x = 0
        · rw [hdz.1 h0, h0]; rfl
        · have h1 : ¬ (tx x).length = 1 := fun e => h0 (hdz.2 e)
          rw [beq_eq_false_iff_ne.2 (show ((dep x : Nat) : Int) ≠ 0 by omega), beq_eq_false_iff_ne.2 (show (((tx x).length : Nat) : Int) ≠ 1 by omega)]
      rw [hR]
      by_cases hw3 : T.size + 3 ≤ 40
      · have hW : depR (⟨#[49, 40]⟩ ++ T ++ ⟨#[41]⟩) = (dep x : Int) + 1 := by
          simp [depR, wrapT hp hw3, dep_wrap]
        have hWs : (⟨#[49, 40]⟩ ++ T ++ ⟨#[41]⟩ : ByteArray).size ≤ 1048576 := by
          rw [ByteArray.size_append, ByteArray.size_append]; show 2 + T.size + 1 ≤ _; omega
        have HW := Lib.hid hW
        have HWs := Lib.hid hWs
        clear hW hWs hp hx1 hx2 hdz
        generalize dep x = d at *
        go_wp2_with fail
        refine (implDepthX _ _ HWs.out).mono ?_
        rintro e w4 ⟨rfl, b4⟩
        have B4 := below_step B3 b4
        clear B3 b4
        rw [HW.out]
        go_wp2_with fail
        go_ret
        exact ⟨rfl, B4⟩
      · clear hp hx1 hx2 hdz
        generalize dep x = d at *
        go_wp2_with fail
        go_ret
        exact ⟨rfl, B3⟩
  · go_enter Try.func9, Try.ntmps9
    go_wp2_with fail
    go_ret
    exact ⟨rfl, Below.refl _ _⟩

theorem c7 : okX ⟨#[55]⟩ = false := by rfl
theorem c01 : okX ⟨#[48, 40, 49, 41]⟩ = false := by rfl
theorem ce : okX ⟨#[]⟩ = false := by rfl
theorem c21 : okX ⟨#[50, 40, 49, 41]⟩ = false := by rfl
theorem vI (T : ByteArray) (w : World) (b : Bool) (h : okX T = b) (hT : T.size ≤ 1048576) : Calls Try.prog 13 #[.string T] w fun e w' => e = .returned (.bool b) ∧ Below w.heap.size w w' := by
  rw [← h]; exact implValidX T w hT
theorem vS (T : ByteArray) (w : World) (b : Bool) (h : okX T = b) (hT : T.size ≤ 1048576) : Calls Try.prog 12 #[.string T] w fun e w' => e = .returned (.bool b) ∧ w = w' := by
  rw [← h]; exact specValidX T w hT

set_option maxRecDepth 100000 in
set_option maxHeartbeats 3200000 in
theorem walkValid (A : Option Addr) (c : Nat) (l : List Int) (w : World) (ha : BL w A l) (hc : l.length ≤ c) (hm : l.length ≤ maxLen) (hmc : c ≤ maxLen) :
    Calls Try.prog 8 #[.slice A l.length c] w fun e w' => e = .returned (.bool true) ∧ Below w.heap.size w w' := by
  have hm' := hm
  unfold maxLen at hm'
  by_cases hl : l.length ≤ 1048576
  · go_enter Try.func8, Try.ntmps8
    go_wp2_with fail
    refine (drawValid_any _ _ _ _ ha hc hm hmc).mono ?_
    rintro e w1 ⟨⟨T, hT, rfl⟩, B1⟩
    clear ha hm
    have hT2 : T.size ≤ 1048576 := by omega
    cases hp : pT0 T with
    | none =>
      have hok := ok_no hp
      clear hp
      go_wp2_with fail
      refine (vI T _ _ hok hT2).mono ?_
      rintro e w2 ⟨rfl, b2⟩
      have B2 := below_step B1 b2
      clear B1 b2
      go_wp2_with (go_at_call 12; refine (vS T _ _ hok hT2).mono ?_; rintro e w' ⟨rfl, rfl⟩)
      go_ret
      exact ⟨rfl, B2⟩
    | some x =>
      have hok := ok_yes hp
      have hmo := Lib.hid (ok_no (moreT hp))
      have h40 := pT0_40 hp
      have hms : (T ++ ⟨#[49]⟩ : ByteArray).size ≤ 1048576 := by
        rw [ByteArray.size_append]; show T.size + 1 ≤ _; omega
      have HMS := Lib.hid hms
      obtain ⟨hx1, hx2⟩ := pT0_tx hp
      have hpos : 1 ≤ T.size := by
        have h1 := tx_pos x
        have : T.size = (tx x).length := by rw [← hx1]; simp
        omega
      by_cases h1 : T.size = 1
      · have hz : ((T.size : Int) == 1) = true := beq_iff_eq.2 (by omega)
        clear hp hx1 hx2 hms
        go_wp2_with fail
        refine (vI T _ _ hok hT2).mono ?_
        rintro e w2 ⟨rfl, b2⟩
        have B2 := below_step B1 b2
        clear B1 b2
        go_wp2_with (go_at_call 12; refine (vS T _ _ hok hT2).mono ?_; rintro e w' ⟨rfl, rfl⟩)
        refine (vI _ _ _ hmo.out HMS.out).mono ?_
        rintro e w3 ⟨rfl, b3⟩
        have B3 := below_step B2 b3
        clear B2 b3
        go_wp2_with fail
        refine (vI _ _ _ c7 (by decide)).mono ?_
        rintro e w4 ⟨rfl, b4⟩
        have B4 := below_step B3 b4
        clear B3 b4
        go_wp2_with fail
        refine (vI _ _ _ c01 (by decide)).mono ?_
        rintro e w5 ⟨rfl, b5⟩
        have B5 := below_step B4 b5
        clear B4 b5
        go_wp2_with fail
        refine (vI _ _ _ ce (by decide)).mono ?_
        rintro e w6 ⟨rfl, b6⟩
        have B6 := below_step B5 b6
        clear B5 b6
        go_wp2_with fail
        refine (vI _ _ _ c21 (by decide)).mono ?_
        rintro e w7 ⟨rfl, b7⟩
        have B7 := below_step B6 b7
        clear B6 b7
        go_wp2_with fail
        go_ret
        exact ⟨rfl, B7⟩
      · have hz : ((T.size : Int) == 1) = false := beq_eq_false_iff_ne.2 (by omega)
        have hle := Lib.hid (ok_no (lessT hp h1))
        have hls : (T.extract 0 (T.size - 1)).size ≤ 1048576 := by rw [ByteArray.size_extract]; omega
        have HLS := Lib.hid hls
        have hT1 : 1 < T.size := by omega
        clear hp hx1 hx2 hms hls
        go_wp2_with fail
        refine (vI T _ _ hok hT2).mono ?_
        rintro e w2 ⟨rfl, b2⟩
        have B2 := below_step B1 b2
        clear B1 b2
        go_wp2_with (go_at_call 12; refine (vS T _ _ hok hT2).mono ?_; rintro e w' ⟨rfl, rfl⟩)
        refine (vI _ _ _ hmo.out HMS.out).mono ?_
        rintro e w3 ⟨rfl, b3⟩
        have B3 := below_step B2 b3
        clear B2 b3
        go_wp2_with fail
        refine (vI _ _ _ hle.out HLS.out).mono ?_
        rintro e w3' ⟨rfl, b3⟩
        have B3 := below_step B3 b3
        clear b3
        go_wp2_with fail
        refine (vI _ _ _ c7 (by decide)).mono ?_
        rintro e w4 ⟨rfl, b4⟩
        have B4 := below_step B3 b4
        clear B3 b4
        go_wp2_with fail
        refine (vI _ _ _ c01 (by decide)).mono ?_
        rintro e w5 ⟨rfl, b5⟩
        have B5 := below_step B4 b5
        clear B4 b5
        go_wp2_with fail
        refine (vI _ _ _ ce (by decide)).mono ?_
        rintro e w6 ⟨rfl, b6⟩
        have B6 := below_step B5 b6
        clear B5 b6
        go_wp2_with fail
        refine (vI _ _ _ c21 (by decide)).mono ?_
        rintro e w7 ⟨rfl, b7⟩
        have B7 := below_step B6 b7
        clear B6 b7
        go_wp2_with fail
        go_ret
        exact ⟨rfl, B7⟩
  · go_enter Try.func8, Try.ntmps8
    go_wp2_with fail
    go_ret
    exact ⟨rfl, Below.refl _ _⟩

theorem sI (T : ByteArray) (A : Option Addr) (c : Nat) (l : List Int) (w : World) (b : Bool) (h : satX T l = b) (hT : T.size ≤ 1048576) (ha : IL w A l) (hl : l.length ≤ 1048576) :
    Calls Try.prog 21 #[.string T, .slice A l.length c] w fun e w' => e = .returned (.bool b) ∧ Below w.heap.size w w' := by
  rw [← h]; exact implSatX T A c l w hT ha hl
theorem sS (T : ByteArray) (A : Option Addr) (c : Nat) (l : List Int) (w : World) (b : Bool) (h : satX T l = b) (hT : T.size ≤ 1048576) (ha : IL w A l) (hl : l.length ≤ 1048576) :
    Calls Try.prog 19 #[.string T, .slice A l.length c] w fun e w' => e = .returned (.bool b) ∧ Below w.heap.size w w' := by
  rw [← h]; exact specSatX T A c l w hT ha hl
set_option maxRecDepth 100000 in
set_option maxHeartbeats 3200000 in
theorem walkWrap (A : Option Addr) (c : Nat) (l : List Int) (w : World) (ha : BL w A l) (hc : l.length ≤ c) (hm : l.length ≤ maxLen) (hmc : c ≤ maxLen) :
    Calls Try.prog 10 #[.slice A l.length c] w fun e w' => e = .returned (.bool true) ∧ Below w.heap.size w w' := by
  have hm' := hm
  unfold maxLen at hm'
  by_cases hl : l.length ≤ 1048576
  · go_enter Try.func10, Try.ntmps10
    go_wp2_with fail
    refine (drawSat_any _ _ _ _ ha hc hm hmc).mono ?_
    rintro e w1 ⟨⟨T, s, AS, cS, hT, hs, rfl, iS⟩, B1⟩
    clear ha hm
    have hT2 : T.size ≤ 1048576 := by omega
    have hs2 : s.length ≤ 1048576 := by omega
    obtain ⟨R, hR⟩ : ∃ R, satX T s = R := ⟨_, rfl⟩
    have hRR : (R != R) = false := by simp
    have hRE : (R == R) = true := by simp
    go_wp2_with fail
    refine (sI T _ _ _ _ _ hR hT2 iS hs2).mono ?_
    rintro e w2 ⟨rfl, b2⟩
    have B2 := below_step B1 b2
    have iS := iS.below b2
    clear B1 b2
    go_wp2_with fail
    refine (sS T _ _ _ _ _ hR hT2 iS hs2).mono ?_
    rintro e w3 ⟨rfl, b3⟩
    have B3 := below_step B2 b3
    have iS := iS.below b3
    clear B2 b3
    cases hp : pT0 T with
    | none =>
      have hok := ok_no hp
      clear hp
      go_wp2_with (go_at_call 12; refine (vS T _ _ hok hT2).mono ?_; rintro e w' ⟨rfl, rfl⟩)
      refine (sS T _ _ _ _ _ hR hT2 iS hs2).mono ?_
      rintro e w4 ⟨rfl, b4⟩
      have B4 := below_step B3 b4
      clear B3 b4 hR
      go_wp2_with fail
      go_ret
      exact ⟨rfl, B4⟩
    | some x =>
      have hok := ok_yes hp
      by_cases h3 : T.size + 3 ≤ 40
      · have HW := Lib.hid (show satX (⟨#[49, 40]⟩ ++ T ++ ⟨#[41]⟩) s = R by rw [← hR]; simp [satX, hp, wrapT hp h3, sat_wrap])
        have HWs := Lib.hid (show (⟨#[49, 40]⟩ ++ T ++ ⟨#[41]⟩ : ByteArray).size ≤ 1048576 by rw [ByteArray.size_append, ByteArray.size_append]; show 2 + T.size + 1 ≤ _; omega)
        clear hp
        go_wp2_with (go_at_call 12; refine (vS T _ _ hok hT2).mono ?_; rintro e w' ⟨rfl, rfl⟩)
        refine (sI _ _ _ _ _ _ HW.out HWs.out iS hs2).mono ?_
        rintro e w4 ⟨rfl, b4⟩
        have B4 := below_step B3 b4
        clear B3 b4 hR
        go_wp2_with fail
        go_ret
        exact ⟨rfl, B4⟩
      · clear hp
        go_wp2_with (go_at_call 12; refine (vS T _ _ hok hT2).mono ?_; rintro e w' ⟨rfl, rfl⟩)
        refine (sS T _ _ _ _ _ hR hT2 iS hs2).mono ?_
        rintro e w4 ⟨rfl, b4⟩
        have B4 := below_step B3 b4
        clear B3 b4 hR
        go_wp2_with fail
        go_ret
        exact ⟨rfl, B4⟩
  · go_enter Try.func10, Try.ntmps10
    go_wp2_with fail
    go_ret
    exact ⟨rfl, Below.refl _ _⟩
end Go.Proofs.Ytdfhglobfehpiaa
