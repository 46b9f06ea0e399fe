/- Configurations in memory and as values; the optimal one, the program's and the model's, by their contracts. -/
import Derived.Test.YtnfaihgnggmpkaaGd
import Derived.Test.YtnfaihgnggmpkaaMetg
import Derived.Test.YtnfaihgnggmpkaaWTwiceg
import Derived.Test.YtnfaihgnggmpkaaGb
import Derived.Laws.ResultCell
namespace Go.Proofs.Ytnfaihgnggmpkaa
open Go.RowKit

/-- A configuration in memory, and as a value. -/
def CB (w : World) (b : Nat) (p q : Value) : Prop := w.heap[b]? = some (.cells #[p, q] 26 (0, 0))
abbrev SV (A : Option Addr) (n c : Nat) : Value := .slice A n c
section
variable {w w' : World} {b : Nat} {p q : Value}
theorem CB.lt (h : CB w b p q) : b < w.heap.size := (Array.getElem?_eq_some_iff.1 h).1
theorem CB.fz (h : CB w b p q) (j : Nat) : w.frozen? ⟨b, j, none⟩ = false := frozen_of_row w b j _ _ h
theorem CB.c0 (h : CB w b p q) : w.cell? ⟨b, 0, none⟩ = some p := by rw [cell_of_row w b 0 _ _ (0, 0) h]; rfl
theorem CB.c1 (h : CB w b p q) : w.cell? ⟨b, 1, none⟩ = some q := by rw [cell_of_row w b 1 _ _ (0, 0) h]; rfl
theorem CB.kept (h : CB w b p q) (hb : w'.heap[b]? = w.heap[b]?) : CB w' b p q := hb.trans h
theorem CB.below (h : CB w b p q) (hb : Below w.heap.size w w') : CB w' b p q := h.kept (hb.block b h.lt)
theorem CB.new (w : World) (p q : Value) : CB (w.alloc (.cells #[p, q] 26)) w.heap.size p q := heap_alloc_new w _
theorem CB.set2 (h : CB w b p q) (p' q' : Value) : CB ((w.setCell ⟨b, 0, none⟩ p').setCell ⟨b, 1, none⟩ q') b p' q' := by
  have h1 : CB (w.setCell ⟨b, 0, none⟩ p') b p' q := by
    unfold CB
    rw [heap_setCell_same w b 0 _ _ _ h]
    rfl
  unfold CB
  rw [heap_setCell_same _ b 1 _ _ _ h1]
  rfl
end
theorem set2_keep (w : World) (b : Nat) (p q : Value) : Keep b (b + 1) w ((w.setCell ⟨b, 0, none⟩ p).setCell ⟨b, 1, none⟩ q) :=
  ⟨rfl, rfl, rfl, by simp [World.setCell], fun i _ hi => (Below.heap_setCell _ ⟨b, 1, none⟩ q i (by show i ≠ b; omega)).trans (Below.heap_setCell w ⟨b, 0, none⟩ p i (by show i ≠ b; omega))⟩

/-- A configuration of the call's own, and a sign. -/
def NewCfg (w : World) (F G : List (List Int)) (ok : Bool) (e : Ending) (w' : World) : Prop :=
  ∃ (A B : Option Addr) (c d m : Nat), e = .returned (.tuple #[.agg #[.slice A F.length c, .slice B G.length d], .bool ok]) ∧ w.heap.size ≤ m ∧ m ≤ w'.heap.size ∧ OSS w' w.heap.size m A c F ∧ OSS w' m w'.heap.size B d G ∧ Below w.heap.size w w'
theorem NewCfg.none {w w' : World} (hb : Below w.heap.size w w') : NewCfg w [] [] false (.returned (.tuple #[.agg #[.slice none 0 0, .slice none 0 0], .bool false])) w' :=
  ⟨Option.none, Option.none, 0, 0, w'.heap.size, rfl, hb.size, Nat.le_refl _, OSS.of_rows (World.ownsRow_nil _ _ _ _) (Rws.nil _ _ _), (OSS.of_rows (World.ownsRow_nil _ _ _ _) (Rws.nil _ _ _)), hb⟩

theorem resO_impl {W : World} {b : Nat} {p q : Value} {ok : Bool} (tmps : Array Value) (h2 : tmps.getD 2 undef = .pointer (some ⟨b, 0, none⟩)) (h3 : tmps.getD 3 undef = .bool ok) (h : CB W b p q) :
    (results Try.f7 tmps).run Try.prog W = .ok (.tuple #[.agg #[p, q], .bool ok]) W := by
  have q0 := h.c0
  have q1 := h.c1
  rw [results_cell_tmp rfl, h2, h3]
  go_simp
theorem resO_spec {W : World} {b : Nat} {p q : Value} {ok : Bool} (tmps : Array Value) (h2 : tmps.getD 2 undef = .pointer (some ⟨b, 0, none⟩)) (h3 : tmps.getD 3 undef = .bool ok) (h : CB W b p q) :
    (results Try.f6 tmps).run Try.prog W = .ok (.tuple #[.agg #[p, q], .bool ok]) W := by
  have q0 := h.c0
  have q1 := h.c1
  rw [results_cell_tmp rfl, h2, h3]
  go_simp
/-- What the optimal configuration is. -/
def optP (F : List (List Int)) : List (List Int) := outM (transM F) (transOk F)
def optA (F : List (List Int)) : List (List Int) := if transOk F = true then F else []
theorem transOk_fam {F : List (List Int)} (h : transOk F = true) : famOk F = true := (trans_parts h).1

theorem take_snoc {F : List (List Int)} {k : Nat} {l : List Int} (h : F[k]? = some l) : F.take (k + 1) = F.take k ++ [l] := by simp [List.take_add_one, h]
set_option maxRecDepth 100000 in
set_option maxHeartbeats 1600000 in
/-- The model's deep copy of a quorum system. -/
theorem l13Copy_any (A : Option Addr) (c : Nat) (F : List (List Int)) (w : World) (ha : ISS w A F) (hf : famOk F = true) (hl : F.length ≤ 1000) :
    Calls Try.prog 20 #[.slice A F.length c] w (NewSS w F) := by
  obtain ⟨i0, hi0, hz0, hz1, hz2⟩ := info_parts slice_info
  obtain ⟨j0, hj0, hy0, hy1, hy2⟩ := info_parts int_info
  have HR := Lib.hid (fun (k : Nat) (l : List Int) (hx : F[k]? = some l) => fam_row hf hx)
  clear hf
  have h00 : (w.alloc (.cells #[] 47)).ownsRow w.heap.size 47 1 (.slice (some ⟨w.heap.size, 0, none⟩) 0 0) 0 [] := World.ownsRow_made w #[] 0 (Nat.le_refl _) (by unfold maxLen; omega) (by simp)
  have H00 := Lib.hid (And.intro h00 ((Below.refl _ w).alloc (Nat.le_refl _) (.cells #[] 47)))
  clear h00
  go_enter Try.func20, Try.ntmps20
  go_wp2
  go_loopw [3, 4] (fun v i wr => ∃ (k : Nat) (rs : List Value) (A5 : Option Addr) (c5 : Nat), k ≤ F.length ∧ i = .int .i64 k ∧ rs.length = k ∧ v = .slice A5 rs.length c5 ∧ wr.ownsRow w.heap.size 47 1 (.slice A5 rs.length c5) rs.length rs ∧ Hid (Rws wr w.heap.size wr.heap.size (F.take k) rs) ∧ Below w.heap.size w wr) (fun _ i _ => F.length - (intOf i).toNat)
  case atStart => exact ⟨0, [], _, _, Nat.zero_le _, rfl, rfl, rfl, H00.out.1, Rws.nil _ _ _, H00.out.2⟩
  case round =>
    clear H00
    obtain ⟨k, rs, A5, c5, hk, rfl, hrl, rfl, hown, hrows, hbel⟩ := hrel
    by_cases hlt : k < F.length
    · obtain ⟨b, off, l, B, d, rfl, hx, hc, hil⟩ := (ha.below hbel).at_ hlt
      obtain ⟨hv, hl0⟩ := HR.out _ _ hx
      have hl6 := vld_len hv
      have HM := Lib.hid (take_snoc hx)
      have HRL := Lib.hid hrl
      have hrl' : rs.length ≤ 1000 := by omega
      clear hx hrl hv
      rcases hil with hn | ⟨b3, off3, rfl, hlt3, hcc⟩
      · rw [hn] at hl0; simp at hl0
      have hbA : Below wr.heap.size wr (wr.alloc (.cells #[] 3)) := (Below.refl _ wr).alloc (Nat.le_refl _) _
      have ho0 : (wr.alloc (.cells #[] 3)).ownsRow wr.heap.size 3 1 (.slice (some ⟨wr.heap.size, 0, none⟩) 0 0) 0 [] := World.ownsRow_made wr #[] 0 (Nat.le_refl _) (by unfold maxLen; omega) (by simp)
      have hcA : (wr.alloc (.cells #[] 3)).cell? ⟨b, off + k, none⟩ = some (.slice (some ⟨b3, off3, none⟩) l.length d) := (World.cell?_of_block (w := wr) (Below.heap_alloc wr _ b (World.block_lt_of_cell? wr _ hc))).trans hc
      have hnews : ∀ (j : Nat) u, (l.map (Value.int .i64))[j]? = some u → (wr.alloc (.cells #[] 3)).cell? ((⟨b3, off3, none⟩ : Addr).add j) = some u := by
        intro j u hu
        rw [List.getElem?_map] at hu
        obtain ⟨x, hx, rfl⟩ := Option.map_eq_some_iff.1 hu
        rw [Addr.add_lit]
        exact (World.cell?_of_block (w := wr) (Below.heap_alloc wr _ b3 hlt3)).trans (hcc j x hx)
      clear hcc
      go_wp2_with (at_builtin; refine wpList_append_own _ rfl (.tmp 13) (.tmp 17) 47 rfl wr.heap.size 3 j0 (.int .i64 0) 1 8 Try.underlying47 hj0 hy0 hy1 hy2 rfl (by decide) _ _ _ rfl ho0 ⟨b3, off3, none⟩ l.length d (l.map (Value.int .i64)) rfl (by simp) hnews (ints_oneCell .i64 l) (by unfold maxLen; omega) (by omega) hbA.size ?_)
      intro v2 w2 ho2 hg2 _
      have b1 : Below wr.heap.size wr w2 := hbA.grown hg2 hbA.size (fun k hk => by cases hk; exact Nat.le_refl _)
      have o1 : w2.ownsRow wr.heap.size 3 1 v2 l.length (l.map (Value.int .i64)) := by simpa using ho2
      obtain ⟨A1, c1, rfl⟩ := own_slice o1
      have hown1 := own_at hown (w' := w2) fun g hg => b1.block g (hown.lt g hg).2
      have hb1 := below_step hbel b1
      have HR1 := Lib.hid (And.intro (hrows.out.below (Nat.le_refl _) b1) (show RowAt w2 wr.heap.size w2.heap.size l (.slice A1 l.length c1) from ⟨_, _, rfl, Own.of_new o1⟩))
      have hq : w.heap.size ≤ wr.heap.size ∧ wr.heap.size ≤ w2.heap.size := ⟨hbel.size, b1.size⟩
      clear hown hbel b1 o1 hrows hc ho2 hg2 ho0 hnews hcA hbA
      go_wp2_with (at_builtin; refine wpList_append_own _ rfl (.tmp 12) (.tmp 19) 23 rfl w.heap.size 47 i0 (.slice none 0 0) 1 24 Try.underlying23 hi0 hz0 hz1 hz2 rfl (by decide) _ _ _ rfl (hown1.alloc _) ⟨w2.heap.size, 0, none⟩ 1 1 [.slice A1 l.length c1] rfl rfl (cell_one_new _ _ _) (slice_oneCell _ _ _) (by unfold maxLen; omega) (by omega) (by simp; omega) ?_)
      intro v' w3 hown2 hgrow _
      have hown2' : w3.ownsRow w.heap.size 47 1 v' (rs ++ [Value.slice A1 l.length c1]).length (rs ++ [Value.slice A1 l.length c1]) := by simpa using hown2
      obtain ⟨A6, c6, rfl⟩ := own_slice hown2'
      have R := Lib.hid (show w3.ownsRow w.heap.size 47 1 (.slice A6 (rs ++ [Value.slice A1 l.length c1]).length c6) (rs ++ [Value.slice A1 l.length c1]).length (rs ++ [Value.slice A1 l.length c1]) ∧ Rws w3 w.heap.size w3.heap.size (F.take (k + 1)) (rs ++ [Value.slice A1 l.length c1]) ∧ Below w.heap.size w w3 by
        refine ⟨hown2', ?_, app_gen hown1 (Nat.le_refl _) hb1 hgrow⟩
        rw [HM.out]
        exact rows_app HR1.out.1 HR1.out.2 (Nat.le_refl _) hq.1 hq.2 hown1 hgrow)
      clear hown1 hown2 hown2' hgrow hb1 HR1
      go_wp2
      go_roundw
      case rel => exact ⟨k + 1, _, _, _, by omega, by go_num, by have := HRL.out; simp; omega, by simp, R.out.1, R.out.2.1, R.out.2.2⟩
      case measure => simp [intOf]; omega
    · have hkl : k = F.length := by omega
      subst hkl
      have h1 := hrows.out
      rw [List.take_length] at h1
      rw [hrl] at hown
      have HO := Lib.hid (OSS.of_rows hown h1)
      rw [hrl]
      clear hown hrows h1 hrl
      go_wp2
      go_ret
      exact ⟨A5, c5, rfl, HO.out, hbel⟩

set_option maxRecDepth 100000 in
set_option maxHeartbeats 1600000 in
theorem specOpt_any (A : Option Addr) (c : Nat) (F : List (List Int)) (w : World) (ha : ISS w A F) (hl : F.length ≤ 1048576) (hs : Short F 1048576) :
    Calls Try.prog 6 #[.slice A F.length c] w (NewCfg w (optP F) (optA F) (transOk F)) := by
  have b0 : Below w.heap.size w (w.alloc (.cells #[.slice none 0 0, .slice none 0 0] 26)) := (Below.refl _ w).alloc (Nat.le_refl _) _
  have cb := CB.new w (.slice none 0 0) (.slice none 0 0)
  cases ht : transOk F
  · have HB := Lib.hid (And.intro ht (And.intro (show optP F = [] by simp [optP, outM, ht]) (show optA F = [] by simp [optA, ht])))
    clear ht
    go_enter Try.func6, Try.ntmps6
    go_wp2_with fail
    refine (specTrans_any _ _ _ _ (ha.below b0) hl hs).mono ?_
    rw [HB.out.1, outM]
    rintro e w1 ⟨A1, c1, rfl, o1, b1⟩
    have cb1 := cb.below b1
    have q0 := cb1.c0
    have q1 := cb1.c1
    have z0 := cb1.fz 0
    have z1 := cb1.fz 1
    have H := Lib.hid (And.intro (cb1.set2 (.slice none 0 0) (.slice none 0 0)) (below_keep (below_step b0 b1) (set2_keep w1 w.heap.size (.slice none 0 0) (.slice none 0 0)) (Nat.le_refl _)))
    clear o1 b1 b0 cb cb1
    go_wp2
    refine bodyPost_ret (resO_spec _ rfl rfl H.out.1) rfl ?_
    rw [HB.out.2.1, HB.out.2.2]
    exact NewCfg.none H.out.2
  · have hfm := transOk_fam ht
    have h20 : F.length ≤ 20 := famOk_len hfm
    have HB := Lib.hid (And.intro ht (show optA F = F by simp [optA, ht]))
    obtain ⟨T, hT⟩ : ∃ T, T = outM (transM F) true := ⟨_, rfl⟩
    have HO := Lib.hid (show optP F = T by simp [optP, ht, hT])
    have HT := Lib.hid hT
    clear hT
    clear ht
    have HFM := Lib.hid hfm
    clear hfm
    rw [HO.out, HB.out.2]
    go_enter Try.func6, Try.ntmps6
    go_wp2_with fail
    refine (specTrans_any _ _ _ _ (ha.below b0) hl hs).mono ?_
    rw [HB.out.1, ← HT.out]
    rintro e w1 ⟨A1, c1, rfl, o1, b1⟩
    have b01 := below_step b0 b1
    have cb1 := cb.below b1
    clear b0 cb b1
    go_wp2_with fail
    refine (l13Copy_any _ _ _ _ (ha.below b01) HFM.out (by omega)).mono ?_
    rintro e w2 ⟨A2, c2, rfl, o2, b2⟩
    have cb2 := cb1.below b2
    have q0 := cb2.c0
    have q1 := cb2.c1
    have z0 := cb2.fz 0
    have z1 := cb2.fz 1
    have kp := set2_keep w2 w.heap.size (.slice A1 T.length c1) (.slice A2 F.length c2)
    have H := Lib.hid (And.intro (cb2.set2 (.slice A1 T.length c1) (.slice A2 F.length c2)) (And.intro (below_keep (below_step b01 b2) kp (Nat.le_refl _)) (And.intro (((o1.below b2).keep kp (.inr (by simp only [World.size_alloc]; omega))).base (lo2 := w.heap.size) (by simp only [World.size_alloc]; omega)) (And.intro (o2.keep kp (.inr (by have := cb1.lt; omega))) (And.intro b01.size b2.size)))))
    clear o1 b2 b01 cb1 cb2 o2 kp
    go_wp2
    refine bodyPost_ret (resO_spec _ rfl rfl H.out.1) rfl ?_
    exact ⟨A1, A2, c1, c2, w1.heap.size, rfl, H.out.2.2.2.2.1, by have := H.out.2.2.2.2.2; simpa [World.setCell] using this, H.out.2.2.1, by have := H.out.2.2.2.1; simpa [World.setCell] using this, H.out.2.1⟩

set_option maxRecDepth 100000 in
set_option maxHeartbeats 1600000 in
theorem implOpt_any (A : Option Addr) (c : Nat) (F : List (List Int)) (w : World) (ha : ISS w A F) (hl : F.length ≤ 1048576) (hs : Short F 1048576) :
    Calls Try.prog 7 #[.slice A F.length c] w (NewCfg w (optP F) (optA F) (transOk F)) := by
  have b0 : Below w.heap.size w (w.alloc (.cells #[.slice none 0 0, .slice none 0 0] 26)) := (Below.refl _ w).alloc (Nat.le_refl _) _
  have cb := CB.new w (.slice none 0 0) (.slice none 0 0)
  cases ht : transOk F
  · have HB := Lib.hid (And.intro ht (And.intro (show optP F = [] by simp [optP, outM, ht]) (show optA F = [] by simp [optA, ht])))
    clear ht
    go_enter Try.func7, Try.ntmps7
    go_wp2_with fail
    refine (implTrans_any _ _ _ _ (ha.below b0) hl hs).mono ?_
    rw [HB.out.1, outM]
    rintro e w1 ⟨A1, c1, rfl, o1, b1⟩
    have cb1 := cb.below b1
    have q0 := cb1.c0
    have q1 := cb1.c1
    have z0 := cb1.fz 0
    have z1 := cb1.fz 1
    have H := Lib.hid (And.intro (cb1.set2 (.slice none 0 0) (.slice none 0 0)) (below_keep (below_step b0 b1) (set2_keep w1 w.heap.size (.slice none 0 0) (.slice none 0 0)) (Nat.le_refl _)))
    clear o1 b1 b0 cb cb1
    go_wp2
    refine bodyPost_ret (resO_impl _ rfl rfl H.out.1) rfl ?_
    rw [HB.out.2.1, HB.out.2.2]
    exact NewCfg.none H.out.2
  · have hfm := transOk_fam ht
    have h20 : F.length ≤ 20 := famOk_len hfm
    have HB := Lib.hid (And.intro ht (show optA F = F by simp [optA, ht]))
    obtain ⟨T, hT⟩ : ∃ T, T = outM (transM F) true := ⟨_, rfl⟩
    have HO := Lib.hid (show optP F = T by simp [optP, ht, hT])
    have HT := Lib.hid hT
    clear hT
    have HMM := Lib.hid (And.intro (mems_msks (famOk_allV hfm)) (famOk_sys hfm).1)
    have hml : (msks F).length = F.length := by simp [msks]
    clear ht
    have HFM := Lib.hid hfm
    clear hfm
    rw [HO.out, HB.out.2]
    go_enter Try.func7, Try.ntmps7
    go_wp2_with fail
    refine (implTrans_any _ _ _ _ (ha.below b0) hl hs).mono ?_
    rw [HB.out.1, ← HT.out]
    rintro e w1 ⟨A1, c1, rfl, o1, b1⟩
    have b01 := below_step b0 b1
    have cb1 := cb.below b1
    clear b0 cb b1
    have ha1 := ha.below b01
    have HML := Lib.hid hml
    clear hml
    go_wp2_with fail
    refine (familyOf_any _ _ _ _ ha1 hl hs).mono ?_
    rintro e w2 ⟨b2, h⟩
    rcases h with ⟨hf, _⟩ | ⟨_, A3, c3, rfl, o3⟩
    · rw [HFM.out] at hf; cases hf
    have o1' := o1.below b2
    have cb2 := cb1.below b2
    have b02 := below_step b01 b2
    have hw1 := b01.size
    have hw2 := b2.size
    have hw3 := cb1.lt
    clear o1 cb1 b01 b2
    go_wp2_with fail
    refine (lists_any _ _ _ _ (IB.of_own o3).1 HMM.out.2 (by have := HML.out; omega)).mono ?_
    rw [HMM.out.1]
    rintro e w3 ⟨A2, c2, rfl, o2, b3⟩
    have cb3 := cb2.below b3
    have q0 := cb3.c0
    have q1 := cb3.c1
    have z0 := cb3.fz 0
    have z1 := cb3.fz 1
    have kp := set2_keep w3 w.heap.size (.slice A1 T.length c1) (.slice A2 F.length c2)
    have H := Lib.hid (And.intro (cb3.set2 (.slice A1 T.length c1) (.slice A2 F.length c2)) (And.intro (below_keep (below_step b02 b3) kp (Nat.le_refl _)) (And.intro (((o1'.below b3).keep kp (.inr (by simp only [World.size_alloc]; omega))).base (lo2 := w.heap.size) (by simp only [World.size_alloc]; omega)) (And.intro ((o2.keep kp (.inr (by omega))).base hw2) (And.intro hw1 (Nat.le_trans hw2 b3.size))))))
    clear o1' b3 b02 cb2 cb3 o2 kp o3
    go_wp2
    refine bodyPost_ret (resO_impl _ rfl rfl H.out.1) rfl ?_
    exact ⟨A1, A2, c1, c2, w1.heap.size, rfl, H.out.2.2.2.2.1, by have := H.out.2.2.2.2.2; simpa [World.setCell] using this, H.out.2.2.1, by have := H.out.2.2.2.1; simpa [World.setCell] using this, H.out.2.1⟩
end Go.Proofs.Ytnfaihgnggmpkaa
