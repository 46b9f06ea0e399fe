/- Thresholds over member sets: program and model by their contracts. -/
import Derived.Test.YtngacjfoldgjpaaGreatDoorWDualg
import Derived.Test.YtngacjfoldgjpaaGreatDoorGb
namespace Go.Proofs.YtngacjfoldgjpaaGreatDoor
open Go.RowKit

def exs (l : List Int) : List Ex := l.map fun x => Ex.mem x.toNat
theorem exs_len (l : List Int) : (exs l).length = l.length := by simp [exs]
theorem exs_at {l : List Int} {j : Nat} {x : Int} (h : l[j]? = some x) : (exs l)[j]? = some (.mem x.toNat) := by simp [exs, h]
theorem dualL_mems (l : List Int) : dualL (exs l) = exs l := by
  induction l with
  | nil => rfl
  | cons x l ih => simp only [exs, List.map_cons, dualL, dual] at ih ⊢; rw [ih]
theorem wfL_mems {l : List Int} (h : ∀ x ∈ l, 1 ≤ x ∧ x ≤ 6) : wfL (exs l) := by
  induction l with
  | nil => simp [exs, wfL]
  | cons x l ih =>
    have h1 := h x (by simp)
    have h2 := ih fun y hy => h y (by simp [hy])
    simp only [exs, List.map_cons, wfL, wf] at h2 ⊢
    exact ⟨⟨by omega, by omega⟩, h2⟩
theorem vld_mems {l : List Int} (h : vld l = true) : ∀ x ∈ l, 1 ≤ x ∧ x ≤ 6 := fun x hx => by
  obtain ⟨j, hj⟩ := List.mem_iff_getElem?.1 hx
  exact vld_at h hj
theorem txT_mems (l : List Int) : (txT (exs l)).length = 2 * l.length + 1 := by
  induction l with
  | nil => simp [exs, txT]
  | cons x l ih => simp only [exs, List.map_cons, txT_cons, txL_cons, List.length_append, List.length_cons, tx, List.length_nil] at ih ⊢; omega
theorem txL_mems {l : List Int} : (txL (exs l)).length ≤ 2 * l.length + 1 := by
  cases l with
  | nil => simp [exs, txL]
  | cons x l => have := txT_mems (x :: l); simp only [exs, List.map_cons, txT_cons, List.length_cons] at this ⊢; omega
def thrOk (k : Int) (l : List Int) : Bool := vld l && decide (1 ≤ k) && decide (k ≤ l.length)
def thrX (k : Int) (l : List Int) : ByteArray := if thrOk k l = true then bx (.thr k.toNat (exs l)) else ⟨#[]⟩
theorem thr_wf {k : Nat} {l : List Int} (hv : vld l = true) (h1 : 1 ≤ k) (h2 : k ≤ l.length) : wf (.thr k (exs l)) ∧ (tx (.thr k (exs l))).length ≤ 40 := by
  have h6 := vld_len hv
  have h3 := txL_mems (l := l)
  refine ⟨?_, ?_⟩
  · simp only [wf, exs_len]; exact ⟨h1, h2, h6, wfL_mems (vld_mems hv)⟩
  · simp only [tx, List.length_cons]; omega
theorem thrX_size (k : Int) (l : List Int) : (thrX k l).size ≤ 40 := by
  unfold thrX
  split
  · rename_i h
    simp only [thrOk, Bool.and_eq_true, decide_eq_true_eq] at h
    rw [bx_size]
    exact (thr_wf (k := k.toNat) h.1.1 (by omega) (by omega)).2
  · exact Nat.zero_le _
theorem fmt_thr {l : List Int} (hv : vld l = true) (hne : l ≠ []) : ((fmt l).drop 1).take ((fmt l).length - 2) ++ [41] = txL (exs l) ∧ 3 ≤ (fmt l).length ∧ (fmt l).length ≤ 13 := by
  have H := all_of (P := fun l => l = [] ∨ (((fmt l).drop 1).take ((fmt l).length - 2) ++ [41] = txL (exs l) ∧ 3 ≤ (fmt l).length ∧ (fmt l).length ≤ 13)) (by decide +kernel) hv
  rcases H with h | h
  · exact absurd h hne
  · exact h

theorem keepTh {wr w3 : World} {d : Nat} {v : Value} {row : Option Nat} {o1 o2 : Obj} (hg : ((wr.alloc o1).alloc o2).grownBy w3 row) (hd : d < wr.heap.size) (hr : some d ≠ row) (h : wr.cell? ⟨d, 1, none⟩ = some v ∧ wr.frozen? ⟨d, 1, none⟩ = false) : w3.cell? ⟨d, 1, none⟩ = some v ∧ w3.frozen? ⟨d, 1, none⟩ = false :=
  keepG hg (alloc_lt (alloc_lt hd _) _) hr (keepA (keepA h hd _) (alloc_lt hd _) _)

set_option maxRecDepth 100000 in
set_option maxHeartbeats 3200000 in
theorem implThr (k : Int) (A : Option Addr) (c : Nat) (l : List Int) (w : World) (ha : IL w A l) (hl : l.length ≤ 1048576) :
    Calls Tryz.prog 7 #[.int .i64 k, .slice A l.length c] w fun e w' => e = .returned (.tuple #[.string (thrX k l), .bool (thrOk k l)]) ∧ Below w.heap.size w w' := by
  obtain ⟨i0, hi0, hz0, hz1, hz2⟩ := info_parts node_info
  have HV := Lib.hid (implValid_any A c l w ha hl)
  cases hok : thrOk k l with
  | false =>
    have HX := Lib.hid (show thrX k l = ⟨#[]⟩ by simp [thrX, hok])
    cases hv : vld l with
    | false =>
      rw [hv] at HV
      clear hok hv
      go_enter Tryz.func7, Tryz.ntmps7
      go_wp2_with (go_at_call 24; refine HV.out.mono ?_; rintro e w' ⟨rfl, rfl⟩)
      go_ret2
      exact ⟨by rw [HX.out]; rfl, Below.refl _ _⟩
    | true =>
      rw [hv] at HV
      have hk : k < 1 ∨ (1 ≤ k ∧ (l.length : Int) < k) := by
        simp [thrOk, hv] at hok; omega
      clear hok hv
      rcases hk with h | ⟨h0, h⟩
      · go_enter Tryz.func7, Tryz.ntmps7
        go_wp2_with (go_at_call 24; refine HV.out.mono ?_; rintro e w' ⟨rfl, rfl⟩)
        go_ret2
        exact ⟨by rw [HX.out]; rfl, Below.refl _ _⟩
      · go_enter Tryz.func7, Tryz.ntmps7
        go_wp2_with (go_at_call 24; refine HV.out.mono ?_; rintro e w' ⟨rfl, rfl⟩)
        go_ret2
        exact ⟨by rw [HX.out]; rfl, Below.refl _ _⟩
  | true =>
    have HX := Lib.hid (show thrX k l = bx (.thr k.toNat (exs l)) by simp [thrX, hok])
    simp only [thrOk, Bool.and_eq_true, decide_eq_true_eq] at hok
    obtain ⟨⟨hv, hk1⟩, hk2⟩ := hok
    rw [hv] at HV
    obtain ⟨kn, rfl⟩ := Int.eq_ofNat_of_zero_le (show 0 ≤ k by omega)
    rw [Int.toNat_natCast] at HX
    have hW := thr_wf (k := kn) hv (by omega) (by omega)
    have h6 := vld_len hv
    have HVL := Lib.hid hv
    have HW := Lib.hid hW
    have g1 : decide ((kn : Int) < 1) = false := by simp; omega
    have g2 : decide ((l.length : Int) < (kn : Int)) = false := by simp; omega
    have g3 : decide (l.length < kn) = false := by simp; omega
    clear hv hW
    go_enter Tryz.func7, Tryz.ntmps7
    go_wp2_with (go_at_call 24; refine HV.out.mono ?_; rintro e w' ⟨rfl, rfl⟩)
    go_loopw [27] (fun i wr => ∃ (j : Nat) (v : Value) (vs' : List Value), j ≤ l.length ∧ i = .int .i64 j ∧ Dl w 0 (kn : Int) (exs l) j v vs' wr) (fun i _ => l.length - (intOf i).toNat)
    case atStart => exact ⟨0, _, [], Nat.zero_le _, rfl, heap_alloc_new w _, World.ownsRow_nil _ _ _ _, by simp only [List.take_zero, TrL], (Below.refl _ _).alloc (Nat.le_refl _) _⟩
    case round =>
      obtain ⟨j, v, vs', hj, rfl, hD⟩ := hrel
      by_cases hlt : j < l.length
      · have hbel := hD.2.2.2
        obtain ⟨b, off, x, rfl, hx, hc⟩ := (ha.below hbel).at_ hlt
        obtain ⟨hx1, hx6⟩ := vld_at HVL.out hx
        have hd : w.heap.size < wr.heap.size := (Array.getElem?_eq_some_iff.1 hD.1).1
        have c1d : wr.cell? ⟨w.heap.size, 1, none⟩ = some v := by rw [cell_of_row wr w.heap.size 1 _ _ (0, 0) hD.1]; rfl
        have f1d : wr.frozen? ⟨w.heap.size, 1, none⟩ = false := frozen_of_row wr w.heap.size 1 _ _ hD.1
        have HD := Lib.hid hD
        have HY := Lib.hid (exs_at hx)
        have hown := hD.2.1
        have hdr : some w.heap.size ≠ v.ownBlock := fun e => by have := (hown.lt _ e.symm).1; omega
        have HT := Lib.hid (show Tr (wr.alloc (.cells #[.int .i64 x] 61)) (fun b => b < 0 ∨ wr.heap.size ≤ b) (dual (.mem x.toNat)) (.iface 59 (.pointer (some ⟨wr.heap.size, 0, none⟩))) by
          simp only [dual, Tr]
          refine ⟨_, rfl, .inr (Nat.le_refl _), ?_⟩
          rw [show ((x.toNat : Nat) : Int) = x by omega]
          exact heap_alloc_new wr _)
        have h63 : j + 1 ≤ maxLen := by unfold maxLen; omega
        have hby : (j + 1) * 16 ≤ 140737488355328 := by omega
        have hD1 : w.heap.size + 1 ≤ wr.heap.size := by omega
        have HB1 := Lib.hid (show Below wr.heap.size wr (wr.alloc (.cells #[.int .i64 x] 61)) from (Below.refl _ _).alloc (Nat.le_refl _) _)
        clear hx hD
        go_wp2_with (at_builtin; refine wpList_append_lies _ rfl (.tmp 35) (.tmp 40) 56 rfl (w.heap.size + 1) 66 i0 .nilIface 1 16 Tryz.underlying56 hi0 hz0 hz1 hz2 rfl (by decide) v j vs' rfl ((hown.alloc _).alloc _) ⟨wr.heap.size + 1, 0, none⟩ 1 1 [.iface 59 (.pointer (some ⟨wr.heap.size, 0, none⟩))] rfl rfl (World.news_of_block (cs := #[.iface 59 (.pointer (some ⟨wr.heap.size, 0, none⟩))]) (t := 66) (fr := (0, 0)) (by have := heap_alloc_new (wr.alloc (.cells #[.int .i64 x] 61)) (.cells #[.iface 59 (.pointer (some ⟨wr.heap.size, 0, none⟩))] 66); simpa using this)) (by simp [Value.oneCell']) (by omega) h63 hby (by simp; omega) (wr.heap.size + 1 + 1) (by simp) ?_)
        intro g3 cap3 w3 hown3 hgrow hat hlt3
        have hS4 := keepTh hgrow hd hdr ⟨c1d, f1d⟩
        obtain ⟨hS4a, hS4b⟩ := hS4
        have R := Lib.hid (dual_app (Nat.zero_le _) HD.out HY.out HB1.out HT.out ((Below.refl _ _).alloc (Nat.le_refl _) _) (alloc_size _ _) hown3 hgrow (by rw [alloc_size]; exact hat))
        clear hown3 hgrow hat HD hown c1d f1d hdr hc
        go_wp2_with fail
        go_roundw
        case rel => exact ⟨j + 1, _, _, by omega, by go_num, R.out⟩
        case measure => simp [intOf]; omega
      · have hjl : j = l.length := by omega
        subst hjl
        obtain ⟨hN, hown, hTd, hbel⟩ := hD
        obtain ⟨AD, cD, rfl⟩ := own_slice hown
        have HE : Tr wr (fun _ => True) (.thr kn (exs l)) (.iface 55 (.pointer (some ⟨w.heap.size, 0, none⟩))) := by
          simp only [Tr]
          refine ⟨_, AD, cD, vs', rfl, trivial, ?_, VL.of_own hown (fun b hb => trivial), ?_⟩
          · rw [exs_len]; exact hN
          · rw [dualL_mems, ← exs_len l, List.take_length] at hTd
            exact TrL.keep (Nat.le_refl _) (fun b hb _ => ⟨trivial, rfl⟩) _ _ hTd
        have HF := Lib.hid (fmtThr_any 40 kn (exs l) w.heap.size _ wr HW.out.2 (by omega) HW.out.1 HE)
        clear hN hown hTd HE
        go_wp2_with fail
        refine HF.out.mono ?_
        rintro e w3 ⟨rfl, b3⟩
        have B3 := below_step hbel b3
        clear hbel b3 HF
        go_wp2_with fail
        go_ret2
        exact ⟨by rw [HX.out]; rfl, B3⟩
end Go.Proofs.YtngacjfoldgjpaaGreatDoor
