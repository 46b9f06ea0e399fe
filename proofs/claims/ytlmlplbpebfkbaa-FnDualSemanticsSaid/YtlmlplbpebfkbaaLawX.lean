/- Laws on drawn expressions: validity, depth, wrapping. -/
import Derived.Test.YtlmlplbpebfkbaaDrawE
import Derived.Test.YtlmlplbpebfkbaaTop
namespace Go.Proofs.Ytlmlplbpebfkbaa
open Go.RowKit

theorem data_app (a b : ByteArray) : (a ++ b).data.toList = a.data.toList ++ b.data.toList := by simp [ByteArray.data_append]
theorem pT0_of {T : ByteArray} {x : Ex} (h : T.data.toList = tx x) (hw : wf x) (hl : T.size ≤ 40) : pT0 T = some x := by
  unfold pT0
  rw [h]
  exact pX_tx hw (by rw [← h]; simpa using hl)
theorem pT0_tx {T : ByteArray} {x : Ex} (h : pT0 T = some x) : T.data.toList = tx x ∧ wf x := ⟨(pX_some h).1, (pX_some h).2.1⟩
theorem wrapT {T : ByteArray} {x : Ex} (h : pT0 T = some x) (hl : T.size + 3 ≤ 40) : pT0 (⟨#[49, 40]⟩ ++ T ++ ⟨#[41]⟩) = some (.thr 1 [x]) := by
  obtain ⟨h1, h2⟩ := pT0_tx h
  refine pT0_of ?_ ?_ ?_
  · rw [data_app, data_app, h1]
    simp only [tx, txL, txT]
    rfl
  · simp [wf, wfL, h2]
  · rw [ByteArray.size_append, ByteArray.size_append]
    show 2 + T.size + 1 ≤ 40
    omega
theorem moreT {T : ByteArray} {x : Ex} (h : pT0 T = some x) : pT0 (T ++ ⟨#[49]⟩) = none := by
  obtain ⟨h1, h2⟩ := pT0_tx h
  by_cases hl : (T ++ ⟨#[49]⟩ : ByteArray).size ≤ 40
  · rw [pT0_small hl, data_app, h1]
    have hs : (tx x).length ≤ 39 := by
      rw [ByteArray.size_append] at hl
      have : (⟨#[49]⟩ : ByteArray).size = 1 := rfl
      have h3 : T.size = (tx x).length := by rw [← h1]; simp
      omega
    have := (p_full 81).1 x [49] h2 (fun c t e => by injection e with e; rw [← e]; decide) (by omega)
    rw [show (⟨#[49]⟩ : ByteArray).data.toList = [49] from rfl, this]
  · exact pT0_big (by omega)
theorem txT_last (es : List Ex) : ∃ t, txT es = t ++ [41] := by
  induction es with
  | nil => exact ⟨[], by simp [txT]⟩
  | cons e es ih =>
    obtain ⟨t, ht⟩ := ih
    exact ⟨44 :: (tx e ++ t), by rw [txT_cons, txL_cons, ht]; simp⟩
theorem lessT {T : ByteArray} {x : Ex} (h : pT0 T = some x) (hs : T.size ≠ 1) : pT0 (T.extract 0 (T.size - 1)) = none := by
  obtain ⟨h1, h2⟩ := pT0_tx h
  have h40 := pT0_40 h
  have hsz : T.size = (tx x).length := by rw [← h1]; simp
  cases x with
  | mem m => exfalso; apply hs; rw [hsz]; simp [tx]
  | thr k es =>
    cases hp : pT0 (T.extract 0 (T.size - 1)) with
    | none => rfl
    | some y =>
      exfalso
      obtain ⟨y1, y2⟩ := pT0_tx hp
      have hd : (T.extract 0 (T.size - 1)).data.toList = (tx (.thr k es)).take (T.size - 1) := by
        rw [← h1]; simp [ByteArray.data_extract, List.dropLast_eq_take]
      rw [y1] at hd
      obtain ⟨t, ht⟩ : ∃ t, tx (.thr k es) = t ++ [41] := by
        cases es with
        | nil => simp only [wf] at h2; simp at h2; omega
        | cons e es =>
          obtain ⟨t, ht⟩ := txT_last es
          exact ⟨dg k :: 40 :: (tx e ++ t), by simp only [tx]; rw [txL_cons, ht]; simp⟩
      have hty : tx y = t := by
        rw [hd, ht, hsz, ht]; simp
      have e1 := (p_full 81).1 (.thr k es) [] h2 (fun c t e => by cases e) (by omega)
      rw [List.append_nil, ht, ← hty] at e1
      have e2 := (p_full 81).1 y [41] y2 (fun c t e => by injection e with e; rw [← e]; decide) (by
        have : (tx y).length + 1 = (tx (.thr k es)).length := by rw [ht, hty]; simp
        omega)
      rw [e2] at e1
      injection e1 with e1
      injection e1 with _ e1
      cases e1
theorem ok_no {T : ByteArray} (h : pT0 T = none) : okX T = false := by simp [okX, h]
theorem ok_yes {T : ByteArray} {x : Ex} (h : pT0 T = some x) : okX T = true := by simp [okX, h]
theorem dep_wrap (x : Ex) : dep (.thr 1 [x]) = dep x + 1 := by simp [dep, depL]; omega
theorem sat_wrap (s : Nat) (x : Ex) : sat s (.thr 1 [x]) = sat s x := by
  cases h : sat s x <;> simp [sat, satL, h]
theorem dep_zero {x : Ex} (h : wf x) : dep x = 0 ↔ (tx x).length = 1 := by
  cases x with
  | mem m => simp [dep, tx]
  | thr k es =>
    cases es with
    | nil => simp only [wf] at h; simp at h; omega
    | cons e es => simp only [dep, depL, tx, List.length_cons]; omega

/-- A drawn text. -/
def Text (w : World) (e : Ending) (w' : World) : Prop := (∃ t : ByteArray, t.size ≤ 100 ∧ e = .returned (.string t)) ∧ Below w.heap.size w w'
def TextSet (w : World) (e : Ending) (w' : World) : Prop :=
  (∃ (t : ByteArray) (l : List Int) (A : Option Addr) (c : Nat), t.size ≤ 100 ∧ l.length ≤ 7 ∧ e = .returned (.tuple #[.string t, .slice A l.length c]) ∧ IL w' A l) ∧ Below w.heap.size w w'
theorem rd_below {w w1 w2 : World} (h : Below w.heap.size w w1) (hg : w1.grownBy w2 (some w.heap.size)) : Below w.heap.size w w2 := h.grown hg h.size (fun k hk => by injection hk with hk; omega)

set_option maxRecDepth 100000 in
set_option maxHeartbeats 1600000 in
theorem drawDual_any (A : Option Addr) (c : Nat) (l : List Int) (w : World) (ha : BL w A l) (hc : l.length ≤ c) (hm : l.length ≤ maxLen) (hmc : c ≤ maxLen) :
    Calls Try.prog 25 #[.slice A l.length c] w (Text w) := by
  go_enter Try.func25, Try.ntmps25
  go_wp2_with fail
  refine (l6Open_any _ _ _ _ ha hc hm hmc).mono ?_
  rintro e w1 ⟨rfl, hr1, b1⟩
  go_wp2_with fail
  refine (l91Expr_any _ _ _ hr1 (by omega)).mono ?_
  rintro e w2 ⟨t, q, _, ht, rfl, hr2, hq, g2⟩
  have B2 := rd_below b1 g2
  clear b1 g2 hr1 hr2 ha
  go_wp2_with fail
  go_ret
  exact ⟨⟨t, by omega, rfl⟩, B2⟩
set_option maxRecDepth 100000 in
set_option maxHeartbeats 1600000 in
theorem drawMembers_any (A : Option Addr) (c : Nat) (l : List Int) (w : World) (ha : BL w A l) (hc : l.length ≤ c) (hm : l.length ≤ maxLen) (hmc : c ≤ maxLen) :
    Calls Try.prog 20 #[.slice A l.length c] w (Text w) := by
  go_enter Try.func20, Try.ntmps20
  go_wp2_with fail
  refine (l6Open_any _ _ _ _ ha hc hm hmc).mono ?_
  rintro e w1 ⟨rfl, hr1, b1⟩
  go_wp2_with fail
  refine (l91Expr_any _ _ _ hr1 (by omega)).mono ?_
  rintro e w2 ⟨t, q, _, ht, rfl, hr2, hq, g2⟩
  have B2 := rd_below b1 g2
  clear b1 g2 hr1 hr2 ha
  go_wp2_with fail
  go_ret
  exact ⟨⟨t, by omega, rfl⟩, B2⟩
set_option maxRecDepth 100000 in
set_option maxHeartbeats 1600000 in
theorem drawSat_any (A : Option Addr) (c : Nat) (l : List Int) (w : World) (ha : BL w A l) (hc : l.length ≤ c) (hm : l.length ≤ maxLen) (hmc : c ≤ maxLen) :
    Calls Try.prog 11 #[.slice A l.length c] w (TextSet w) := by
  go_enter Try.func11, Try.ntmps11
  go_wp2_with fail
  refine (l6Open_any _ _ _ _ ha hc hm hmc).mono ?_
  rintro e w1 ⟨rfl, hr1, b1⟩
  go_wp2_with fail
  refine (l91Expr_any _ _ _ hr1 (by omega)).mono ?_
  rintro e w2 ⟨t, q, _, ht, rfl, hr2, hq, g2⟩
  have B2 := rd_below b1 g2
  clear b1 g2 hr1 ha
  go_wp2_with fail
  refine (l91Set_any _ _ _ hr2 (by omega)).mono ?_
  rintro e w3 ⟨s, A3, c3, q3, hs7, rfl, o3, _, _, g3⟩
  have B3 := rd_below B2 g3
  have i3 := (IL.of_own o3).1
  clear B2 g3 o3 hr2
  go_wp2_with fail
  go_ret2
  exact ⟨⟨t, s, A3, c3, by omega, hs7, rfl, i3⟩, B3⟩

def marksV : List ByteArray := [⟨#[49]⟩, ⟨#[40]⟩, ⟨#[41]⟩, ⟨#[44]⟩, ⟨#[55]⟩]
theorem catC {n z x : Nat} (hn : n ≤ z) (hz : z ≤ 60) (hx : x ≤ 1) : ¬ 9223372036854775807 < n + x := by omega
theorem catD {n z x : Nat} (hn : n ≤ z) (hz : z ≤ 60) (hx : x ≤ 1) : ¬ 9223372036854775807 < n + x + (z - n) := by omega
theorem kcB {a W W' : World} (hg : W.grownBy W' (some a.heap.size)) (h : Below a.heap.size a W) : Below a.heap.size a W' := h.grown hg h.size (fun k e => by injection e with e; omega)
theorem c7 : okX ⟨#[55]⟩ = false := by rfl
theorem c01 : okX ⟨#[48, 40, 49, 41]⟩ = false := by rfl
theorem ce : okX ⟨#[]⟩ = false := by rfl
theorem c21 : okX ⟨#[50, 40, 49, 41]⟩ = false := by rfl
theorem vI (T : ByteArray) (w : World) (b : Bool) (h : okX T = b) (hT : T.size ≤ 1048576) : Calls Try.prog 29 #[.string T] w fun e w' => e = .returned (.bool b) ∧ Below w.heap.size w w' := by
  rw [← h]; exact implValidX T w hT
theorem vS (T : ByteArray) (w : World) (b : Bool) (h : okX T = b) (hT : T.size ≤ 1048576) : Calls Try.prog 23 #[.string T] w fun e w' => e = .returned (.bool b) ∧ w = w' := by
  rw [← h]; exact specValidX T w hT

theorem sI (T : ByteArray) (A : Option Addr) (c : Nat) (l : List Int) (w : World) (b : Bool) (h : satX T l = b) (hT : T.size ≤ 1048576) (ha : IL w A l) (hl : l.length ≤ 1048576) :
    Calls Try.prog 12 #[.string T, .slice A l.length c] w fun e w' => e = .returned (.bool b) ∧ Below w.heap.size w w' := by
  rw [← h]; exact implSatX T A c l w hT ha hl
theorem sS (T : ByteArray) (A : Option Addr) (c : Nat) (l : List Int) (w : World) (b : Bool) (h : satX T l = b) (hT : T.size ≤ 1048576) (ha : IL w A l) (hl : l.length ≤ 1048576) :
    Calls Try.prog 13 #[.string T, .slice A l.length c] w fun e w' => e = .returned (.bool b) ∧ Below w.heap.size w w' := by
  rw [← h]; exact specSatX T A c l w hT ha hl
end Go.Proofs.Ytlmlplbpebfkbaa
