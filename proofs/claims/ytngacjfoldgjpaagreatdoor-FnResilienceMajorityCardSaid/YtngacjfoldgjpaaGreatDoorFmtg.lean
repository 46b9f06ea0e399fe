/- The program's texts of trees by their contracts. -/
import Derived.Test.YtngacjfoldgjpaaGreatDoorGe
import Derived.Test.YtngacjfoldgjpaaGreatDoorGh
import Derived.Test.YtngacjfoldgjpaaGreatDoorShelf
namespace Go.Proofs.YtngacjfoldgjpaaGreatDoor
open Go.RowKit

theorem m_fmt_mem (f : Nat) (a : Addr) (w : World) : (method (f + 1) 59 (.pointer (some a)) "loop.example/flexquorum/impl.format").run Tryz.prog w = .ok (118, .pointer (some a)) w := by kernel_rfl
theorem m_fmt_thr (f : Nat) (a : Addr) (w : World) : (method (f + 1) 55 (.pointer (some a)) "loop.example/flexquorum/impl.format").run Tryz.prog w = .ok (25, .pointer (some a)) w := by kernel_rfl
theorem Tr.below {w w' : World} {Q : Nat → Prop} {x : Ex} {v : Value} (h : Tr w Q x v) (hb : Below w.heap.size w w') : Tr w' Q x v := Tr.keep hb.size (fun b hQ hlt => ⟨hQ, hb.block b hlt⟩) _ _ h
theorem TrL.below {w w' : World} {Q : Nat → Prop} {xs : List Ex} {vs : List Value} (h : TrL w Q xs vs) (hb : Below w.heap.size w w') : TrL w' Q xs vs := TrL.keep hb.size (fun b hQ hlt => ⟨hQ, hb.block b hlt⟩) _ _ h
theorem VL.below {w w' : World} {Q : Nat → Prop} {A : Option Addr} {vs : List Value} (h : VL w Q A vs) (hb : Below w.heap.size w w') : VL w' Q A vs := h.keep hb.size (fun b hQ hlt => ⟨hQ, hb.block b hlt⟩)
theorem small_bx {n : Nat} (h : n ≤ 9) : (⟨(Lib.decDigits n).toArray⟩ : ByteArray) = ⟨#[dg n]⟩ := by
  rw [Lib.decDigits, dif_pos (by omega)]; rfl
theorem itoa_dg (n : Nat) (h : n ≤ 9) (w : World) : Calls Tryz.prog 48 #[.int .i64 n] w fun e w' => e = .returned (.string ⟨#[dg n]⟩) ∧ w = w' := by
  refine (Tryz.strconv_Itoa_small n (by omega) w).mono ?_
  rintro e w' ⟨rfl, rfl⟩
  exact ⟨by rw [small_bx h], rfl⟩

set_option maxRecDepth 100000 in
set_option maxHeartbeats 1600000 in
theorem fmtMem_any (m b : Nat) (Q : Nat → Prop) (w : World) (hw : wf (.mem m)) (ht : Tr w Q (.mem m) (.iface 59 (.pointer (some ⟨b, 0, none⟩)))) :
    Calls Tryz.prog 118 #[.pointer (some ⟨b, 0, none⟩)] w fun e w' => e = .returned (.string (bx (.mem m))) ∧ w = w' := by
  simp only [Tr] at ht
  obtain ⟨b', hv, _, hb⟩ := ht
  obtain rfl : b = b' := by injection hv with _ hv; injection hv with hv; injection hv with hv; injection hv
  simp only [wf] at hw
  have c0 : w.cell? ⟨b, 0, none⟩ = some (.int .i64 m) := by rw [cell_of_row w b 0 _ _ (0, 0) hb]; rfl
  have HR := Lib.hid (show (⟨#[dg m]⟩ : ByteArray) = bx (.mem m) by simp [bx, tx])
  generalize bx (.mem m) = R at *
  obtain ⟨hm1, hm6⟩ := hw
  clear hb hv
  go_enter Tryz.func118, Tryz.ntmps118
  go_wp2_with (go_at_call 48; refine (itoa_dg m (by omega) _).mono ?_; rintro e w' ⟨rfl, rfl⟩)
  go_ret
  exact ⟨by rw [← HR.out]; rfl, rfl⟩

set_option maxRecDepth 100000 in
set_option maxHeartbeats 3200000 in
theorem fmtThr_any (n : Nat) : ∀ (k : Nat) (es : List Ex) (b : Nat) (Q : Nat → Prop) (w : World), (tx (.thr k es)).length ≤ n → n ≤ 1000 → wf (.thr k es) → Tr w Q (.thr k es) (.iface 55 (.pointer (some ⟨b, 0, none⟩))) →
    Calls Tryz.prog 25 #[.pointer (some ⟨b, 0, none⟩)] w fun e w' => e = .returned (.string (bx (.thr k es))) ∧ Below w.heap.size w w' := by
  induction n with
  | zero => intro k es b Q w h; have := tx_pos (.thr k es); omega
  | succ n ih =>
    intro k es b Q w hn h1000 hw ht
    obtain ⟨i0, hi0, hz0, hz1, hz2⟩ := info_parts text_info
    simp only [Tr] at ht
    obtain ⟨b', A, c, vs, hv, _, hb, hV, hT⟩ := ht
    obtain rfl : b = b' := by injection hv with _ hv; injection hv with hv; injection hv with hv; injection hv
    have hat : ∀ (j : Nat) (y : Ex), es[j]? = some y → wf y ∧ (tx y).length ≤ n := fun j y h => by
      have h1 := tx_at (k := k) h
      exact ⟨wf_at hw h, by omega⟩
    simp only [wf] at hw
    have c1 : w.cell? ⟨b, 1, none⟩ = some (.slice A es.length c) := by rw [cell_of_row w b 1 _ _ (0, 0) hb]; rfl
    have HR := Lib.hid (show tx (.thr k es) = dg k :: 40 :: txL es by simp only [tx])
    have hlen := congrArg List.length HR.out
    simp only [List.length_cons] at hlen
    have HA := Lib.hid hat
    have h6 := hw.2.2.1
    have h1 : 1 ≤ es.length := by omega
    have hk6 : k ≤ 6 := by omega
    have HV := Lib.hid hV
    have HT := Lib.hid hT
    have HB := Lib.hid hb
    clear hb hat hw hV hT hv
    go_enter Tryz.func25, Tryz.ntmps25
    go_wp2_with fail
    go_loopw [3, 11] (fun v i wr => ∃ j : Nat, j ≤ es.length ∧ i = .int .i64 j ∧ wr.ownsRow w.heap.size 9 1 v j (strs es j) ∧ Below w.heap.size w wr) (fun _ i _ => es.length - (intOf i).toNat)
    case atStart => exact ⟨0, Nat.zero_le _, rfl, World.ownsRow_nil _ _ _ _, Below.refl _ _⟩
    case round =>
      obtain ⟨j, hj, rfl, hown, hbel⟩ := hrel
      by_cases hlt : j < es.length
      · obtain ⟨y, u, g, off, hy, rfl, hc, ht⟩ := op_at (HV.out.below hbel) (HT.out.below hbel) hlt
        obtain ⟨hwy, hyn⟩ := HA.out j y hy
        have HY := Lib.hid hy
        cases y with
        | mem m =>
          have ht' := ht
          simp only [Tr] at ht'
          obtain ⟨b2, rfl, _, _⟩ := ht'
          have hm1 := m_fmt_mem
          have HI := Lib.hid (fmtMem_any m b2 Q wr hwy ht)
          clear hy hwy hyn ih ht HA HV HT HR
          go_wp2_with (first
            | (go_at_call 118; refine HI.out.mono ?_; rintro e w' ⟨rfl, rfl⟩)
            | (at_builtin; refine wpList_append_own _ rfl (.tmp 15) (.tmp 18) 90 rfl w.heap.size 9 i0 (.string ⟨#[]⟩) 1 16 Tryz.underlying90 hi0 hz0 hz1 hz2 rfl (by decide) _ _ _ rfl (hown.alloc _) ⟨wr.heap.size, 0, none⟩ 1 1 [.string (bx (.mem m))] rfl rfl (cell_one_new _ _ _) (by intro u hu; simp at hu; subst hu; rfl) (by unfold maxLen; omega) (by omega) (by have := hbel.size; simp; omega) ?_)
            | fail)
          intro v' w1 hown' hgrow _
          have R := Lib.hid (parts_app HY.out hown hbel hown' hgrow)
          clear hown hown' hgrow hbel
          go_wp2_with fail
          go_roundw
          case rel => exact ⟨j + 1, by omega, by go_num, R.out.1, R.out.2⟩
          case measure => simp [intOf]; omega
        | thr k2 es2 =>
          have ht' := ht
          simp only [Tr] at ht'
          obtain ⟨b2, _, _, _, rfl, _⟩ := ht'
          have hm1 := m_fmt_thr
          have HI := Lib.hid (ih k2 es2 b2 Q wr hyn (by omega) hwy ht)
          clear hy hwy hyn ih ht HA HV HT HR
          go_wp2_with fail
          refine HI.out.mono ?_
          rintro e w2 ⟨rfl, b2'⟩
          have hbel2 := below_step hbel b2'
          have hown2 := hown.kept (row := none) ⟨b2'.os, b2'.tape, b2'.output, b2'.size, fun i hi _ => b2'.block i hi⟩ (Classical.em _)
          clear hown hbel b2' HI
          go_wp2_with (at_builtin; refine wpList_append_own _ rfl (.tmp 15) (.tmp 18) 90 rfl w.heap.size 9 i0 (.string ⟨#[]⟩) 1 16 Tryz.underlying90 hi0 hz0 hz1 hz2 rfl (by decide) _ _ _ rfl (hown2.alloc _) ⟨w2.heap.size, 0, none⟩ 1 1 [.string (bx (.thr k2 es2))] rfl rfl (cell_one_new _ _ _) (by intro u hu; simp at hu; subst hu; rfl) (by unfold maxLen; omega) (by omega) (by have := hbel2.size; simp; omega) ?_)
          intro v' w1 hown' hgrow _
          have R := Lib.hid (parts_app HY.out hown2 hbel2 hown' hgrow)
          clear hown2 hown' hgrow hbel2
          go_wp2_with fail
          go_roundw
          case rel => exact ⟨j + 1, by omega, by go_num, R.out.1, R.out.2⟩
          case measure => simp [intOf]; omega
      · have hjl : j = es.length := by omega
        subst hjl
        obtain ⟨AW, cW, rfl⟩ := own_slice hown
        obtain ⟨g, rfl, _, hg⟩ := own_form hown h1
        have hcap : es.length ≤ cW := by
          rcases hown.2 with ⟨e, h0⟩ | ⟨g', cap, cur, e, _, _, hc', _⟩
          · omega
          · injection e with e1 e2 e3; omega
        have hcells : ∀ (j : Nat) x, (es.map bx)[j]? = some x → wr.cell? ⟨g, 0 + j, none⟩ = some (.string x) := by
          intro j x hx
          rw [List.getElem?_map] at hx
          obtain ⟨y, hy, rfl⟩ := Option.map_eq_some_iff.1 hx
          have := hown.cells (g := g) rfl j (.string (bx y)) (by rw [strs_all]; simp [hy])
          rw [Addr.add_lit] at this
          rw [Nat.zero_add]
          simpa using this
        have hwords : (es.map bx).map (fun x => x.data.toList) = es.map tx := by simp [Function.comp_def, bx_list]
        have hJ := join_tx es (by rintro rfl; simp at h1)
        have hJl := congrArg List.length hJ
        simp only [List.length_append, List.length_cons, List.length_nil] at hJl
        have c0 : wr.cell? ⟨b, 0, none⟩ = some (.int .i64 k) := by
          have hlt : b < w.heap.size := (Array.getElem?_eq_some_iff.1 HB.out).1
          rw [hbel.cell (p := ⟨b, 0, none⟩) hlt, cell_of_row w b 0 _ _ (0, 0) HB.out]; rfl
        have HC := Lib.hid (Tryz.strings_Join g 0 cW (es.map bx) ⟨#[44]⟩ wr hcells hg (by simp; omega) (by simpa using hcap) (by rw [hwords]; show (Lib.join (es.map tx) [44]).length ≤ _; omega))
        rw [hwords, List.length_map] at HC
        obtain ⟨J, hJe⟩ : ∃ J : ByteArray, J = ⟨(Lib.join (es.map tx) (⟨#[44]⟩ : ByteArray).data.toList).toArray⟩ := ⟨_, rfl⟩
        rw [← hJe] at HC
        have hJd : J.data.toList = Lib.join (es.map tx) [44] := by rw [hJe]
        have hJs : J.size ≤ 1000 := by
          have : J.data.toList.length = J.size := by simp
          rw [hJd] at this; omega
        have HE := Lib.hid (show (⟨#[dg k]⟩ ++ ⟨#[40]⟩ ++ J ++ ⟨#[41]⟩ : ByteArray) = bx (.thr k es) from ext_of (by
          rw [data_app0, data_app0, data_app0, hJd, HR.out, ← hJ]; simp))
        clear hown hcells hwords hJ hJl hJe hJd ih HA HV HT HR HB
        go_wp2_with (go_at_call 48; refine (itoa_dg k (by omega) _).mono ?_; rintro e w' ⟨rfl, rfl⟩)
        refine HC.out.mono ?_
        rintro e w3 ⟨rfl, b3⟩
        have B3 := below_step hbel b3
        clear HC hbel b3 c0
        go_wp2_with fail
        go_ret
        exact ⟨by rw [← HE.out]; rfl, B3⟩
end Go.Proofs.YtngacjfoldgjpaaGreatDoor
