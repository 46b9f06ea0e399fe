/- Weighted votes, the program's, by their contracts. -/
import Derived.Test.YtgbijndfpbcjeaaWtS
import Derived.Laws.ResultCell
namespace Go.Proofs.Ytgbijndfpbcjeaa
open Go.RowKit

/-- The votes of the first k members, the others' as 0. -/
def vk (v : List Int) (k j : Nat) : Int := if j < k then vt v j else 0
/-- A vote assignment in memory, and as a value. -/
def VB (w : World) (b m : Nat) (u : Nat → Int) : Prop :=
  w.heap[b]? = some (.cells #[.int .u8 (m : Int), .int .i64 (u 0), .int .i64 (u 1), .int .i64 (u 2), .int .i64 (u 3), .int .i64 (u 4), .int .i64 (u 5)] 87 (0, 0))
def VV (m : Nat) (u : Nat → Int) : Value := .agg #[.int .u8 (m : Int), .int .i64 (u 0), .int .i64 (u 1), .int .i64 (u 2), .int .i64 (u 3), .int .i64 (u 4), .int .i64 (u 5)]
section
variable {w w' : World} {b m : Nat} {u : Nat → Int}
theorem VB.lt (h : VB w b m u) : b < w.heap.size := (Array.getElem?_eq_some_iff.1 h).1
theorem VB.fz (h : VB w b m u) (j : Nat) : w.frozen? ⟨b, j, none⟩ = false := frozen_of_row w b j _ _ h
theorem VB.c0 (h : VB w b m u) : w.cell? ⟨b, 0, none⟩ = some (.int .u8 (m : Int)) := by rw [cell_of_row w b 0 _ _ (0, 0) h]; rfl
theorem VB.c1 (h : VB w b m u) : w.cell? ⟨b, 1, none⟩ = some (.int .i64 (u 0)) := by rw [cell_of_row w b 1 _ _ (0, 0) h]; rfl
theorem VB.c2 (h : VB w b m u) : w.cell? ⟨b, 2, none⟩ = some (.int .i64 (u 1)) := by rw [cell_of_row w b 2 _ _ (0, 0) h]; rfl
theorem VB.c3 (h : VB w b m u) : w.cell? ⟨b, 3, none⟩ = some (.int .i64 (u 2)) := by rw [cell_of_row w b 3 _ _ (0, 0) h]; rfl
theorem VB.c4 (h : VB w b m u) : w.cell? ⟨b, 4, none⟩ = some (.int .i64 (u 3)) := by rw [cell_of_row w b 4 _ _ (0, 0) h]; rfl
theorem VB.c5 (h : VB w b m u) : w.cell? ⟨b, 5, none⟩ = some (.int .i64 (u 4)) := by rw [cell_of_row w b 5 _ _ (0, 0) h]; rfl
theorem VB.c6 (h : VB w b m u) : w.cell? ⟨b, 6, none⟩ = some (.int .i64 (u 5)) := by rw [cell_of_row w b 6 _ _ (0, 0) h]; rfl
theorem VB.at_ (h : VB w b m u) {j : Nat} (hj : j < 6) : w.cell? ⟨b, 1 + j, none⟩ = some (.int .i64 (u j)) := by
  have : j = 0 ∨ j = 1 ∨ j = 2 ∨ j = 3 ∨ j = 4 ∨ j = 5 := by omega
  rcases this with rfl | rfl | rfl | rfl | rfl | rfl
  · exact h.c1
  · exact h.c2
  · exact h.c3
  · exact h.c4
  · exact h.c5
  · exact h.c6
theorem VB.kept (h : VB w b m u) (hb : w'.heap[b]? = w.heap[b]?) : VB w' b m u := hb.trans h
theorem VB.below (h : VB w b m u) (hb : Below w.heap.size w w') : VB w' b m u := h.kept (hb.block b h.lt)
theorem VB.set0 (h : VB w b m u) (m' : Nat) : VB (w.setCell ⟨b, 0, none⟩ (.int .u8 (m' : Int))) b m' u := by
  unfold VB
  rw [heap_setCell_same w b 0 _ _ _ h]
  rfl
theorem VB.set1 (h : VB w b m u) {k : Nat} (hk : k < 6) (x : Int) : VB (w.setCell ⟨b, 1 + k, none⟩ (.int .i64 x)) b m (fun j => if j = k then x else u j) := by
  unfold VB
  rw [heap_setCell_same w b (1 + k) _ _ _ h]
  have : k = 0 ∨ k = 1 ∨ k = 2 ∨ k = 3 ∨ k = 4 ∨ k = 5 := by omega
  rcases this with rfl | rfl | rfl | rfl | rfl | rfl <;> rfl
end
theorem vk_next {v : List Int} {k : Nat} {x : Int} (hx : v[k]? = some x) : (fun j => if j = k then x else vk v k j) = vk v (k + 1) := by
  funext j
  unfold vk
  by_cases e : j = k
  · subst e
    simp [vt_some hx]
  · have : (j < k + 1) ↔ j < k := by omega
    simp [e, this]
theorem vk_zero {v : List Int} {k : Nat} (hx : v[k]? = some 0) : vk v k = vk v (k + 1) := by
  funext j
  unfold vk
  by_cases e : j = k
  · subst e
    simp [vt_some hx]
  · have : (j < k + 1) ↔ j < k := by omega
    simp [this]
theorem vk_all {v : List Int} (j : Nat) : vk v v.length j = vt v j := by
  unfold vk
  split
  · rfl
  · exact (vt_none (by omega)).symm
theorem posT_yes {v : List Int} {k : Nat} {x : Int} (hx : v[k]? = some x) (h : 0 < x) : posT v (k + 1) = posT v k ||| 2 ^ k := by
  rw [posT, vt_some hx, if_pos h]
theorem posT_no {v : List Int} {k : Nat} (hx : v[k]? = some 0) : posT v (k + 1) = posT v k := by
  rw [posT, vt_some hx, if_neg (by omega)]

/-- What the reading of a vote assignment hands back. -/
def Votes (w : World) (v : List Int) (e : Ending) (w' : World) : Prop :=
  Below w.heap.size w w' ∧ ((wOk v = false ∧ e = .returned (.tuple #[VV 0 (fun _ => 0), .bool false])) ∨ (wOk v = true ∧ e = .returned (.tuple #[VV (posT v v.length) (vt v), .bool true])))

/-- A whole assignment is written over another. -/
def set7 (w : World) (b m : Nat) (u : Nat → Int) : World := ((((((((w.setCell ⟨b, 0, none⟩ (.int .u8 (m : Int))).setCell ⟨b, 1, none⟩ (.int .i64 (u 0))).setCell ⟨b, 2, none⟩ (.int .i64 (u 1))).setCell ⟨b, 3, none⟩ (.int .i64 (u 2))).setCell ⟨b, 4, none⟩ (.int .i64 (u 3))).setCell ⟨b, 5, none⟩ (.int .i64 (u 4))).setCell ⟨b, 6, none⟩ (.int .i64 (u 5))))
theorem VB.set7 {w : World} {b m0 : Nat} {u0 : Nat → Int} (h : VB w b m0 u0) (m : Nat) (u : Nat → Int) : VB (set7 w b m u) b m u := by
  have h6 := (((((((h.set0 m).set1 (k := 0) (by omega) (u 0)).set1 (k := 1) (by omega) (u 1)).set1 (k := 2) (by omega) (u 2)).set1 (k := 3) (by omega) (u 3)).set1 (k := 4) (by omega) (u 4)).set1 (k := 5) (by omega) (u 5))
  unfold VB at h6 ⊢
  exact h6
theorem set7_below {a w : World} {B b : Nat} (h : Below B a w) (hb : B ≤ b) (m : Nat) (u : Nat → Int) : Below B a (set7 w b m u) :=
  ((((((h.setCell hb _).setCell hb _).setCell hb _).setCell hb _).setCell hb _).setCell hb _).setCell hb _
theorem VB.new (w : World) : VB (w.alloc (.cells #[.int .u8 0, .int .i64 0, .int .i64 0, .int .i64 0, .int .i64 0, .int .i64 0, .int .i64 0] 87)) w.heap.size 0 (fun _ => 0) := heap_alloc_new w _
theorem res_votes {W : World} {b m : Nat} {u : Nat → Int} {ok : Bool} (tmps : Array Value) (h2 : tmps.getD 2 undef = .pointer (some ⟨b, 0, none⟩)) (h3 : tmps.getD 3 undef = .bool ok) (h : VB W b m u) :
    (results Try.f81 tmps).run Try.prog W = .ok (.tuple #[VV m u, .bool ok]) W := by
  have q0 := h.c0
  have q1 := h.c1
  have q2 := h.c2
  have q3 := h.c3
  have q4 := h.c4
  have q5 := h.c5
  have q6 := h.c6
  rw [results_cell_tmp rfl, h2, h3]
  go_simp
  rfl
/-- Where the reading begins: the result's place and the assignment, both empty. -/
def wv0 (w : World) : World := (w.alloc (.cells #[.int .u8 0, .int .i64 0, .int .i64 0, .int .i64 0, .int .i64 0, .int .i64 0, .int .i64 0] 87)).alloc (.cells #[.int .u8 0, .int .i64 0, .int .i64 0, .int .i64 0, .int .i64 0, .int .i64 0, .int .i64 0] 87)
theorem wv0_facts (w : World) (v : List Int) : VB (wv0 w) w.heap.size 0 (fun _ => 0) ∧ VB (wv0 w) (w.heap.size + 1) (posT v 0) (vk v 0) ∧ Below w.heap.size w (wv0 w) := by
  unfold wv0
  refine ⟨?_, ?_, ((Below.refl _ w).alloc (Nat.le_refl _) _).alloc (by simp) _⟩
  · exact (Below.heap_alloc (w.alloc _) _ _ (by simp)).trans (heap_alloc_new w _)
  · have := heap_alloc_new (w.alloc (.cells #[.int .u8 0, .int .i64 0, .int .i64 0, .int .i64 0, .int .i64 0, .int .i64 0, .int .i64 0] 87)) (.cells #[.int .u8 0, .int .i64 0, .int .i64 0, .int .i64 0, .int .i64 0, .int .i64 0, .int .i64 0] 87)
    rw [World.size_alloc] at this
    exact this

set_option maxRecDepth 100000 in
set_option maxHeartbeats 1600000 in
theorem votesOf_any (A : Option Addr) (c : Nat) (v : List Int) (w : World) (ha : IL w A v) (hl : v.length ≤ 1048576) :
    Calls Try.prog 81 #[.slice A v.length c] w (Votes w v) := by
  by_cases hr : 1 ≤ v.length ∧ v.length ≤ 6
  · have H00 := Lib.hid (wv0_facts w v)
    obtain ⟨hr1, hr6⟩ := hr
    go_enter Try.func81, Try.ntmps81
    go_wp2
    go_loopw [18] (fun i wr => ∃ k : Nat, k ≤ v.length ∧ i = .int .i64 k ∧ VB wr w.heap.size 0 (fun _ => 0) ∧ VB wr (w.heap.size + 1) (posT v k) (vk v k) ∧ Hid (wAll (v.take k)) ∧ Below w.heap.size w wr) (fun i _ => v.length - (intOf i).toNat)
    case atStart => exact ⟨0, Nat.zero_le _, rfl, H00.out.1, H00.out.2.1, (by show ∀ _ ∈ _, _; simp), H00.out.2.2⟩
    case round =>
      clear H00
      obtain ⟨k, hk, rfl, hz, hvb, hall, hbel⟩ := hrel
      by_cases hlt : k < v.length
      · obtain ⟨b, off, x, rfl, hx, hc⟩ := (ha.below hbel).at_ hlt
        have hki : (0 : Int) ≤ (k : Int) := by omega
        have hki2 : (k : Int) < (v.length : Int) := by omega
        by_cases hx9 : 0 ≤ x ∧ x ≤ 9
        · have HA := Lib.hid (wAll_take hx hall.out hx9)
          clear hall
          obtain ⟨hx0, hx9⟩ := hx9
          by_cases hp : 0 < x
          · have HP := Lib.hid (And.intro (posT_yes hx hp) (vk_next hx))
            have q0 := hvb.c0
            have z0 := hvb.fz 0
            have hpl := posT_lt v k (by omega)
            have HX := Lib.hid hx
            clear hx
            go_wp2_with fail
            refine (with_any (posT v k) ((k : Int) + 1) _ hpl (by omega) (by omega)).mono ?_
            rintro e w' ⟨he, rfl⟩
            have hpe : posT v k ||| 2 ^ (((k : Int) + 1).toNat - 1) = posT v (k + 1) := by
              rw [HP.out.1]
              congr 2
            rw [hpe] at he
            subst he
            clear hpe
            have h1 := hvb.set0 (posT v (k + 1))
            have q1 := h1.at_ (j := k) (by omega)
            have z1 := h1.fz (1 + k)
            have H2 := Lib.hid (show VB ((wr.setCell ⟨w.heap.size + 1, 0, none⟩ (.int .u8 ((posT v (k + 1) : Nat) : Int))).setCell ⟨w.heap.size + 1, 1 + k, none⟩ (.int .i64 x)) w.heap.size 0 (fun _ => 0) ∧ VB ((wr.setCell ⟨w.heap.size + 1, 0, none⟩ (.int .u8 ((posT v (k + 1) : Nat) : Int))).setCell ⟨w.heap.size + 1, 1 + k, none⟩ (.int .i64 x)) (w.heap.size + 1) (posT v (k + 1)) (vk v (k + 1)) ∧ Below w.heap.size w ((wr.setCell ⟨w.heap.size + 1, 0, none⟩ (.int .u8 ((posT v (k + 1) : Nat) : Int))).setCell ⟨w.heap.size + 1, 1 + k, none⟩ (.int .i64 x)) by
              refine ⟨?_, ?_, ?_⟩
              · exact (hz.kept (Below.heap_setCell wr _ _ _ (by simp))).kept (Below.heap_setCell _ _ _ _ (by simp))
              · have := h1.set1 (k := k) (by omega) x
                rw [HP.out.2] at this
                exact this
              · exact (hbel.setCell (by simp) _).setCell (by simp) _)
            clear h1 hvb hz hbel HP
            go_wp2
            go_roundw
            case rel => exact ⟨k + 1, by omega, by go_num, H2.out.1, H2.out.2.1, HA.out, H2.out.2.2⟩
            case measure => simp [intOf]; omega
          · have hx00 : x = 0 := by omega
            subst hx00
            have HP := Lib.hid (And.intro (posT_no hx) (vk_zero hx))
            have H2 := Lib.hid (show VB wr (w.heap.size + 1) (posT v (k + 1)) (vk v (k + 1)) by rw [HP.out.1, ← HP.out.2]; exact hvb)
            clear hx hvb HP
            go_wp2
            go_roundw
            case rel => exact ⟨k + 1, by omega, by go_num, hz, H2.out, HA.out, hbel⟩
            case measure => simp [intOf]; omega
        · have H := Lib.hid (wOk_bad hx hx9)
          have q0 := hz.c0
          have q1 := hz.c1
          have q2 := hz.c2
          have q3 := hz.c3
          have q4 := hz.c4
          have q5 := hz.c5
          have q6 := hz.c6
          have z0 := hz.fz 0
          have z1 := hz.fz 1
          have z2 := hz.fz 2
          have z3 := hz.fz 3
          have z4 := hz.fz 4
          have z5 := hz.fz 5
          have z6 := hz.fz 6
          have H7 := Lib.hid (And.intro (hz.set7 0 (fun _ => 0)) (set7_below hbel (Nat.le_refl _) 0 (fun _ => 0)))
          clear hx hall hvb
          by_cases hneg : x < 0
          · go_wp2
            refine bodyPost_ret (res_votes _ rfl rfl H7.out.1) rfl ?_
            exact ⟨H7.out.2, .inl ⟨H.out, rfl⟩⟩
          · go_wp2
            refine bodyPost_ret (res_votes _ rfl rfl H7.out.1) rfl ?_
            exact ⟨H7.out.2, .inl ⟨H.out, rfl⟩⟩
      · have hkl : k = v.length := by omega
        subst hkl
        have hva : vk v v.length = vt v := by funext j; exact vk_all j
        rw [hva] at hvb
        have H := Lib.hid (wOk_iff.2 ⟨hr1, hr6, by have := hall.out; rwa [List.take_length] at this⟩)
        have q0 := hvb.c0
        have q1 := hvb.c1
        have q2 := hvb.c2
        have q3 := hvb.c3
        have q4 := hvb.c4
        have q5 := hvb.c5
        have q6 := hvb.c6
        have z0 := hz.fz 0
        have z1 := hz.fz 1
        have z2 := hz.fz 2
        have z3 := hz.fz 3
        have z4 := hz.fz 4
        have z5 := hz.fz 5
        have z6 := hz.fz 6
        have p0 := hz.c0
        have p1 := hz.c1
        have p2 := hz.c2
        have p3 := hz.c3
        have p4 := hz.c4
        have p5 := hz.c5
        have p6 := hz.c6
        have H7 := Lib.hid (And.intro (hz.set7 (posT v v.length) (vt v)) (set7_below hbel (Nat.le_refl _) (posT v v.length) (vt v)))
        clear hall hva
        go_wp2
        refine bodyPost_ret (res_votes _ rfl rfl H7.out.1) rfl ?_
        exact ⟨H7.out.2, .inr ⟨H.out, rfl⟩⟩
  · have H := Lib.hid (show wOk v = false by rw [Bool.eq_false_iff]; intro h; exact hr (wOk_len h))
    have hz := VB.new w
    have hbel : Below w.heap.size w (w.alloc (.cells #[.int .u8 0, .int .i64 0, .int .i64 0, .int .i64 0, .int .i64 0, .int .i64 0, .int .i64 0] 87)) := (Below.refl _ w).alloc (Nat.le_refl _) _
    by_cases h1 : v.length < 1
    · go_enter Try.func81, Try.ntmps81
      go_wp2
      refine bodyPost_ret (res_votes _ rfl rfl hz) rfl ?_
      exact ⟨hbel, .inl ⟨H.out, rfl⟩⟩
    · go_enter Try.func81, Try.ntmps81
      go_wp2
      refine bodyPost_ret (res_votes _ rfl rfl hz) rfl ?_
      exact ⟨hbel, .inl ⟨H.out, rfl⟩⟩
end Go.Proofs.Ytgbijndfpbcjeaa
