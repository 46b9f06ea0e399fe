/- The library's heap functions over the program's heap of sets, by their contracts. -/
import Derived.Test.YtgbijndfpbcjeaaHeapI
import Derived.Maps.AppendAt
namespace Go.Proofs.Ytgbijndfpbcjeaa
open Go.RowKit

theorem m_push (f : Nat) (a : Addr) (w : World) : (method (f + 1) 56 (.pointer (some a)) "Push").run Try.prog w = .ok (129, .pointer (some a)) w := by kernel_rfl
theorem m_pop (f : Nat) (a : Addr) (w : World) : (method (f + 1) 56 (.pointer (some a)) "Pop").run Try.prog w = .ok (128, .pointer (some a)) w := by kernel_rfl
theorem m_len (f : Nat) (a : Addr) (w : World) : (method (f + 1) 56 (.pointer (some a)) "Len").run Try.prog w = .ok (90, .pointer (some a)) w := by kernel_rfl
theorem m_less (f : Nat) (a : Addr) (w : World) : (method (f + 1) 56 (.pointer (some a)) "Less").run Try.prog w = .ok (127, .pointer (some a)) w := by kernel_rfl
theorem m_swap (f : Nat) (a : Addr) (w : World) : (method (f + 1) 56 (.pointer (some a)) "Swap").run Try.prog w = .ok (130, .pointer (some a)) w := by kernel_rfl

theorem ta_bits (x : Int) (w : World) : (Instr.typeAssert (.iface 59 (.int .u8 x)) 20 59 true).run Try.prog w = .ok (.tuple #[.int .u8 x, .bool true]) w := by kernel_rfl

/-- The heap at block p holds the masks a, in memory from block lo on. -/
def HS (w : World) (lo p : Nat) (a : List Nat) : Prop :=
  lo ≤ p ∧ ∃ v, w.heap[p]? = some (.cells #[v] 58 (0, 0)) ∧ w.ownsRow lo 59 1 v a.length (ubs a)
theorem HS.hg {w : World} {lo p : Nat} {a : List Nat} (h : HS w lo p a) (ha : a ≠ []) : ∃ g c, HG w p g c a ∧ lo ≤ g := by
  obtain ⟨_, v, hp, ho⟩ := h
  rcases ho.2 with ⟨_, h0⟩ | ⟨g, cap, cur, hv, hb, _⟩
  · exact absurd (List.eq_nil_of_length_eq_zero h0) ha
  · subst hv
    exact ⟨g, cap, ⟨hp, own_base ho (Nat.zero_le _)⟩, hb⟩
theorem HG.hs {w : World} {lo p g c : Nat} {a : List Nat} (h : HG w p g c a) (hp : lo ≤ p) (hg : lo ≤ g) : HS w lo p a := by
  refine ⟨hp, _, h.1, h.2.1, ?_⟩
  rcases h.2.2 with h0 | ⟨g', cap, cur, hv, hb, hr⟩
  · exact .inl h0
  · injection hv with hv1 hv2 hv3
    injection hv1 with hv1
    injection hv1 with hv1
    subst hv1 hv3
    exact .inr ⟨g, c, cur, rfl, hg, hr⟩
theorem Two.below {p g lo : Nat} {w w' : World} (h : Two p g w w') (hp : lo ≤ p) (hg : lo ≤ g) : Below lo w w' :=
  ⟨h.os, h.tape, h.output, Nat.le_of_eq h.size, fun k hk => h.block k (by omega) (by omega)⟩
theorem below_below {lo : Nat} {a b c : World} (h : Below lo a b) (k : Below lo b c) : Below lo a c := h.trans k
theorem HS.lt {w : World} {lo p : Nat} {a : List Nat} (h : HS w lo p a) : p < w.heap.size := by
  obtain ⟨_, v, hp, _⟩ := h
  exact (Array.getElem?_eq_some_iff.1 hp).1

/-- What an append to the heap's slice leaves. -/
theorem pushed {w w1 : World} {lo p s : Nat} {a : List Nat} {v v' : Value} {o : Obj} (hlo : lo ≤ p) (hp : w.heap[p]? = some (.cells #[v] 58 (0, 0)))
    (ho : w.ownsRow lo 59 1 v a.length (ubs a)) (ho' : w1.ownsRow lo 59 1 v' (a.length + 1) (ubs a ++ [.int .u8 (s : Int)])) (hg : (w.alloc o).grownBy w1 v.ownBlock) :
    w1.cell? ⟨p, 0, none⟩ = some v ∧ w1.frozen? ⟨p, 0, none⟩ = false ∧ HS (w1.setCell ⟨p, 0, none⟩ v') lo p (a ++ [s]) ∧ Below lo w (w1.setCell ⟨p, 0, none⟩ v') := by
  have hpl : p < w.heap.size := (Array.getElem?_eq_some_iff.1 hp).1
  have hne : some p ≠ v.ownBlock := by
    intro e
    obtain ⟨cur, h2⟩ := own_cells ho p e.symm
    rw [hp] at h2
    injection h2 with h2
    injection h2 with _ h2
    exact absurd h2 (by decide)
  have hp1 : w1.heap[p]? = some (.cells #[v] 58 (0, 0)) := by
    rw [hg.block p (by simp; omega) hne, Below.heap_alloc w _ p hpl, hp]
  have hne1 : ∀ k, v'.ownBlock = some k → k ≠ p := by
    rintro k hk rfl
    obtain ⟨cur, h2⟩ := own_cells ho' k hk
    rw [hp1] at h2
    injection h2 with h2
    injection h2 with _ h2
    exact absurd h2 (by decide)
  refine ⟨by rw [cell_of_row w1 p 0 _ _ (0, 0) hp1]; rfl, frozen_of_row w1 p 0 _ _ hp1, ⟨hlo, v', heap_setCell_same w1 p 0 _ _ _ hp1, ?_⟩, ?_⟩
  · have h2 := own_at (w' := w1.setCell ⟨p, 0, none⟩ v') ho' fun k hk => Below.heap_setCell w1 ⟨p, 0, none⟩ _ k (hne1 k hk)
    rw [ubs_snoc]
    simpa using h2
  · have h1 : Below lo w w1 := by
      have h0 : Below lo w (w.alloc o) := (Below.refl lo w).alloc (by omega) o
      exact h0.grown hg (by simp; omega) (fun k hk => (ho.lt k hk).1)
    exact h1.setCell hlo _

set_option maxRecDepth 100000 in
set_option maxHeartbeats 800000 in
theorem heapPush_any (lo p s : Nat) (a : List Nat) (w : World) (h : HS w lo p a) (hl : a.length ≤ 1000) :
    Calls Try.prog 129 #[.pointer (some ⟨p, 0, none⟩), .iface 59 (.int .u8 s)] w fun e w' => e = .returned (.tuple #[]) ∧ HS w' lo p (a ++ [s]) ∧ Below lo w w' := by
  obtain ⟨i0, hi0, hz0, hz1, hz2⟩ := info_parts bits_info
  have hpl := h.lt
  obtain ⟨hlo, v, hp, ho⟩ := h
  have c0 : w.cell? ⟨p, 0, none⟩ = some v := by rw [cell_of_row w p 0 _ _ (0, 0) hp]; rfl
  have HP := Lib.hid hp
  have hta := ta_bits
  clear hp
  go_enter Try.func129, Try.ntmps129
  go_wp2_with (at_builtin; refine wpList_append_own _ rfl (.tmp 15) (.tmp 17) 58 rfl lo 59 i0 (.int .u8 0) 1 1 Try.underlying58 hi0 hz0 hz1 hz2 rfl (by decide) _ _ _ rfl (ho.alloc _) ⟨w.heap.size, 0, none⟩ 1 1 [.int .u8 s] rfl rfl (cell_one_new _ _ _) (ints_oneCell .u8 [(s : Int)]) (by unfold maxLen; omega) (by omega) (by simp; omega) ?_)
  intro v' w1 hown' hgrow _
  obtain ⟨k1, k2, k3, k4⟩ := pushed hlo HP.out ho hown' hgrow
  obtain ⟨A', c', rfl⟩ := own_slice hown'
  have HK := Lib.hid (And.intro k3 k4)
  clear k3 k4 hown' hgrow ho c0
  go_wp2
  go_end0
  exact ⟨rfl, HK.out.1, HK.out.2⟩

theorem heapLess_i (p g c i j : Nat) (I J : Int) (hI : I = (i : Int)) (hJ : J = (j : Int)) (a : List Nat) (w : World) (h : HG w p g c a) (hi : i < a.length) (hj : j < a.length) :
    Calls Try.prog 127 #[.pointer (some ⟨p, 0, none⟩), .int .i64 I, .int .i64 J] w fun e w' => e = .returned (.bool (decide (a.getD i 0 < a.getD j 0))) ∧ Drew w w' := by
  subst hI hJ
  exact heapLess_any p g c i j a w h hi hj
theorem heapSwap_i (p g c i j : Nat) (I J : Int) (hI : I = (i : Int)) (hJ : J = (j : Int)) (a : List Nat) (w : World) (h : HG w p g c a) (hi : i < a.length) (hj : j < a.length) :
    Calls Try.prog 130 #[.pointer (some ⟨p, 0, none⟩), .int .i64 I, .int .i64 J] w fun e w' => e = .returned (.tuple #[]) ∧ HG w' p g c (swp a i j) ∧ Two p g w w' := by
  subst hI hJ
  exact heapSwap_any p g c i j a w h hi hj

set_option maxRecDepth 100000 in
set_option maxHeartbeats 800000 in
theorem up_any (p g c : Nat) (a : List Nat) (j : Nat) (w : World) (h : HG w p g c a) (hu : Up a j) (hl : a.length ≤ 1048576) :
    Calls Try.prog 103 #[.iface 56 (.pointer (some ⟨p, 0, none⟩)), .int .i64 j] w fun e w' => e = .returned (.tuple #[]) ∧ ∃ b, HG w' p g c b ∧ Sift a b a.length ∧ HeapN b b.length ∧ Two p g w w' := by
  have hm1 := m_less
  have hm2 := m_swap
  have HU := Lib.hid hu
  clear hu
  go_enter Try.func103, Try.ntmps103
  go_wp2
  go_loopw [1] (fun q wr => ∃ (i : Nat) (b : List Nat), q = .int .i64 i ∧ HG wr p g c b ∧ b.length = a.length ∧ Hid (Up b i ∧ Sift a b a.length) ∧ Two p g w wr) (fun q _ => (intOf q).toNat)
  case atStart => exact ⟨j, a, rfl, h, rfl, ⟨HU.out, Sift.refl _ _⟩, Two.refl _ _ _⟩
  case round =>
    clear h
    obtain ⟨i, b, rfl, hb, hbl, hub, htw⟩ := hrel
    rcases Nat.eq_zero_or_pos i with h0 | h0
    · subst h0
      have HR := Lib.hid (And.intro hub.out.2 (hub.out.1.root rfl))
      clear hub
      go_wp2
      go_end0
      exact ⟨rfl, b, hb, HR.out.1, HR.out.2, htw⟩
    · obtain ⟨m, rfl⟩ : ∃ m, i = m + 1 := ⟨i - 1, by omega⟩
      have hmm : m + 1 < a.length := by have := hub.out.1.1; omega
      obtain ⟨q, hqm⟩ : ∃ q : Nat, q = m / 2 := ⟨_, rfl⟩
      have hq : (m : Int) / 2 = (q : Int) := by omega
      have hqq : (m + 1 - 1) / 2 = q := by omega
      have hne : ((q : Int) == (m : Int) + 1) = false := beq_eq_false_iff_ne.2 (by omega)
      have hql : q < b.length := by omega
      have hml : m + 1 < b.length := by omega
      have HQ := Lib.hid hqq
      have hqlt : q < m + 1 := by omega
      clear hqq hqm
      by_cases hlt : b.getD (m + 1) 0 < b.getD q 0
      · have HL := Lib.hid hlt
        clear hlt
        go_wp2_with fail
        refine (heapLess_i p g c (m + 1) q _ _ (by omega) rfl b _ hb hml hql).mono ?_
        rintro e w1 ⟨he, hd1⟩
        rw [decide_eq_true HL.out] at he
        subst he
        have hb1 := hb.drw hd1
        have htw1 := htw.drw hd1
        clear hd1 hb htw
        go_wp2_with fail
        refine (heapSwap_i p g c q (m + 1) _ _ rfl (by omega) b _ hb1 hql hml).mono ?_
        rintro e w2 ⟨rfl, hb2, htw2⟩
        have htw3 := htw1.trans htw2
        have HR := Lib.hid (show Up (swp b q (m + 1)) q ∧ Sift a (swp b q (m + 1)) a.length by
          have h1 := hub.out.1.step (by omega) (by rw [HQ.out]; exact HL.out)
          rw [HQ.out] at h1
          exact ⟨h1, hub.out.2.swap (Nat.le_refl _) (by omega) (by omega)⟩)
        have hsl : (swp b q (m + 1)).length = a.length := by rw [swp_len]; exact hbl
        clear hb1 htw1 htw2 hub
        go_wp2
        go_roundw
        case rel => exact ⟨q, _, rfl, hb2, hsl, HR.out, htw3⟩
        case measure => simp [intOf]; omega
      · have HL := Lib.hid hlt
        clear hlt
        go_wp2_with fail
        refine (heapLess_i p g c (m + 1) q _ _ (by omega) rfl b _ hb hml hql).mono ?_
        rintro e w1 ⟨he, hd1⟩
        rw [decide_eq_false HL.out] at he
        subst he
        have hb1 := hb.drw hd1
        have htw1 := htw.drw hd1
        have HR := Lib.hid (And.intro hub.out.2 (hub.out.1.stop (by rw [HQ.out]; have := HL.out; omega)))
        clear hd1 hb htw hub
        go_wp2
        go_end0
        exact ⟨rfl, b, hb1, HR.out.1, HR.out.2, htw1⟩

set_option maxRecDepth 100000 in
set_option maxHeartbeats 1600000 in
theorem down_any (p g c n : Nat) (a : List Nat) (w : World) (h : HG w p g c a) (hu : Dn a n 0) (hl : a.length ≤ 1048576) :
    Calls Try.prog 104 #[.iface 56 (.pointer (some ⟨p, 0, none⟩)), .int .i64 0, .int .i64 n] w fun e w' => (∃ r, e = .returned (.bool r)) ∧ ∃ b, HG w' p g c b ∧ Sift a b n ∧ HeapN b n ∧ Two p g w w' := by
  have hm1 := m_less
  have hm2 := m_swap
  have hnl : n ≤ a.length := hu.1
  have HU := Lib.hid hu
  clear hu
  go_enter Try.func104, Try.ntmps104
  go_wp2
  go_loopw [7] (fun q wr => ∃ (i : Nat) (b : List Nat), q = .int .i64 i ∧ i ≤ n ∧ HG wr p g c b ∧ b.length = a.length ∧ Hid (Dn b n i ∧ Sift a b n) ∧ Two p g w wr) (fun q _ => n - (intOf q).toNat)
  case atStart => exact ⟨0, a, rfl, Nat.zero_le _, h, rfl, ⟨HU.out, Sift.refl _ _⟩, Two.refl _ _ _⟩
  case round =>
    clear h
    obtain ⟨i, b, rfl, hin, hb, hbl, hdb, htw⟩ := hrel
    by_cases h1 : 2 * i + 1 < n
    · have hge : ¬ (n : Int) ≤ 2 * (i : Int) + 1 := by omega
      have hd1 : decide ((n : Int) ≤ 2 * (i : Int) + 1) = false := by simp; omega
      have hneg : decide (2 * (i : Int) + 1 < 0) = false := by simp; omega
      by_cases h2 : 2 * i + 2 < n
      · have h2d : decide (2 * (i : Int) + 1 + 1 < (n : Int)) = true := by simp; omega
        by_cases h3 : b.getD (2 * i + 2) 0 < b.getD (2 * i + 1) 0
        · have HC := Lib.hid (child_r h2 h3)
          have HL := Lib.hid h3
          clear h3
          go_wp2_with fail
          refine (heapLess_i p g c (2 * i + 2) (2 * i + 1) _ _ (by omega) (by omega) b _ hb (by omega) (by omega)).mono ?_
          rintro e w1 ⟨he, hd1'⟩
          rw [decide_eq_true HL.out] at he
          subst he
          have hb1 := hb.drw hd1'
          have htw1 := htw.drw hd1'
          clear hd1' hb htw
          have hjl : 2 * i + 2 < b.length := by omega
          have hil : i < b.length := by omega
          by_cases h4 : b.getD (2 * i + 2) 0 < b.getD i 0
          · have HL4 := Lib.hid h4
            clear h4
            go_wp2_with fail
            refine (heapLess_i p g c (2 * i + 2) i _ _ (by omega) rfl b _ hb1 hjl hil).mono ?_
            rintro e w3 ⟨he, hd3⟩
            rw [decide_eq_true HL4.out] at he
            subst he
            have hb3 := hb1.drw hd3
            have htw3 := htw1.drw hd3
            clear hd3
            go_wp2_with fail
            refine (heapSwap_i p g c i (2 * i + 2) _ _ rfl (by omega) b _ hb3 hil hjl).mono ?_
            rintro e w4 ⟨rfl, hb4, htw4⟩
            have htw5 := htw3.trans htw4
            have HR := Lib.hid (show Dn (swp b i (2 * i + 2)) n (2 * i + 2) ∧ Sift a (swp b i (2 * i + 2)) n from
              ⟨hdb.out.1.step HC.out HL4.out, hdb.out.2.swap hnl (by omega) (by omega)⟩)
            have hsl : (swp b i (2 * i + 2)).length = a.length := by rw [swp_len]; exact hbl
            clear hb3 htw3 htw4 hdb
            go_wp2
            go_roundw
            case rel => exact ⟨2 * i + 2, _, (by refine congrArg (Value.int .i64) ?_; omega), by omega, hb4, hsl, HR.out, htw5⟩
            case measure => simp [intOf]; omega
          · have HL4 := Lib.hid h4
            clear h4
            go_wp2_with fail
            refine (heapLess_i p g c (2 * i + 2) i _ _ (by omega) rfl b _ hb1 hjl hil).mono ?_
            rintro e w3 ⟨he, hd3⟩
            rw [decide_eq_false HL4.out] at he
            subst he
            have hb3 := hb1.drw hd3
            have htw3 := htw1.drw hd3
            have HR := Lib.hid (And.intro hdb.out.2 (hdb.out.1.stop HC.out (by have := HL4.out; omega)))
            clear hd3 hdb
            go_wp2
            go_ret
            exact ⟨⟨_, rfl⟩, b, hb3, HR.out.1, HR.out.2, htw3⟩
        · have HC := Lib.hid (child_l h1 (fun h => h3 h.2))
          have HL := Lib.hid h3
          clear h3
          go_wp2_with fail
          refine (heapLess_i p g c (2 * i + 2) (2 * i + 1) _ _ (by omega) (by omega) b _ hb (by omega) (by omega)).mono ?_
          rintro e w1 ⟨he, hd1'⟩
          rw [decide_eq_false HL.out] at he
          subst he
          have hb1 := hb.drw hd1'
          have htw1 := htw.drw hd1'
          clear hd1' hb htw
          have hjl : 2 * i + 1 < b.length := by omega
          have hil : i < b.length := by omega
          by_cases h4 : b.getD (2 * i + 1) 0 < b.getD i 0
          · have HL4 := Lib.hid h4
            clear h4
            go_wp2_with fail
            refine (heapLess_i p g c (2 * i + 1) i _ _ (by omega) rfl b _ hb1 hjl hil).mono ?_
            rintro e w3 ⟨he, hd3⟩
            rw [decide_eq_true HL4.out] at he
            subst he
            have hb3 := hb1.drw hd3
            have htw3 := htw1.drw hd3
            clear hd3
            go_wp2_with fail
            refine (heapSwap_i p g c i (2 * i + 1) _ _ rfl (by omega) b _ hb3 hil hjl).mono ?_
            rintro e w4 ⟨rfl, hb4, htw4⟩
            have htw5 := htw3.trans htw4
            have HR := Lib.hid (show Dn (swp b i (2 * i + 1)) n (2 * i + 1) ∧ Sift a (swp b i (2 * i + 1)) n from
              ⟨hdb.out.1.step HC.out HL4.out, hdb.out.2.swap hnl (by omega) (by omega)⟩)
            have hsl : (swp b i (2 * i + 1)).length = a.length := by rw [swp_len]; exact hbl
            clear hb3 htw3 htw4 hdb
            go_wp2
            go_roundw
            case rel => exact ⟨2 * i + 1, _, (by refine congrArg (Value.int .i64) ?_; omega), by omega, hb4, hsl, HR.out, htw5⟩
            case measure => simp [intOf]; omega
          · have HL4 := Lib.hid h4
            clear h4
            go_wp2_with fail
            refine (heapLess_i p g c (2 * i + 1) i _ _ (by omega) rfl b _ hb1 hjl hil).mono ?_
            rintro e w3 ⟨he, hd3⟩
            rw [decide_eq_false HL4.out] at he
            subst he
            have hb3 := hb1.drw hd3
            have htw3 := htw1.drw hd3
            have HR := Lib.hid (And.intro hdb.out.2 (hdb.out.1.stop HC.out (by have := HL4.out; omega)))
            clear hd3 hdb
            go_wp2
            go_ret
            exact ⟨⟨_, rfl⟩, b, hb3, HR.out.1, HR.out.2, htw3⟩
      · have h2d : decide (2 * (i : Int) + 1 + 1 < (n : Int)) = false := by simp; omega
        have HC := Lib.hid (child_l (a := b) h1 (fun h => h2 h.1))
        have hjl : 2 * i + 1 < b.length := by omega
        have hil : i < b.length := by omega
        by_cases h4 : b.getD (2 * i + 1) 0 < b.getD i 0
        · have HL4 := Lib.hid h4
          clear h4
          go_wp2_with fail
          refine (heapLess_i p g c (2 * i + 1) i _ _ (by omega) rfl b _ hb hjl hil).mono ?_
          rintro e w3 ⟨he, hd3⟩
          rw [decide_eq_true HL4.out] at he
          subst he
          have hb3 := hb.drw hd3
          have htw3 := htw.drw hd3
          clear hd3
          go_wp2_with fail
          refine (heapSwap_i p g c i (2 * i + 1) _ _ rfl (by omega) b _ hb3 hil hjl).mono ?_
          rintro e w4 ⟨rfl, hb4, htw4⟩
          have htw5 := htw3.trans htw4
          have HR := Lib.hid (show Dn (swp b i (2 * i + 1)) n (2 * i + 1) ∧ Sift a (swp b i (2 * i + 1)) n from
            ⟨hdb.out.1.step HC.out HL4.out, hdb.out.2.swap hnl (by omega) (by omega)⟩)
          have hsl : (swp b i (2 * i + 1)).length = a.length := by rw [swp_len]; exact hbl
          clear hb3 htw3 htw4 hdb
          go_wp2
          go_roundw
          case rel => exact ⟨2 * i + 1, _, (by refine congrArg (Value.int .i64) ?_; omega), by omega, hb4, hsl, HR.out, htw5⟩
          case measure => simp [intOf]; omega
        · have HL4 := Lib.hid h4
          clear h4
          go_wp2_with fail
          refine (heapLess_i p g c (2 * i + 1) i _ _ (by omega) rfl b _ hb hjl hil).mono ?_
          rintro e w3 ⟨he, hd3⟩
          rw [decide_eq_false HL4.out] at he
          subst he
          have hb3 := hb.drw hd3
          have htw3 := htw.drw hd3
          have HR := Lib.hid (And.intro hdb.out.2 (hdb.out.1.stop HC.out (by have := HL4.out; omega)))
          clear hd3 hdb
          go_wp2
          go_ret
          exact ⟨⟨_, rfl⟩, b, hb3, HR.out.1, HR.out.2, htw3⟩
    · have hd1 : decide ((n : Int) ≤ 2 * (i : Int) + 1) = true := by simp; omega
      have HR := Lib.hid (And.intro hdb.out.2 (hdb.out.1.leaf (by omega)))
      clear hdb
      go_wp2
      go_ret
      exact ⟨⟨_, rfl⟩, b, hb, HR.out.1, HR.out.2, htw⟩
end Go.Proofs.Ytgbijndfpbcjeaa
