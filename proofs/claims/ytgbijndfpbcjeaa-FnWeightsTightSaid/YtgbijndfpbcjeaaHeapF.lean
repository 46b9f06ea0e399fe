/- The heap of sets beside other memory: which blocks its functions turn. -/
import Derived.Test.YtgbijndfpbcjeaaHeapQ
namespace Go.Proofs.Ytgbijndfpbcjeaa
open Go.RowKit

/-- Of what lay before, only block p and block g have been written. -/
structure Fr (p g : Nat) (w w' : World) : Prop where
  os : w'.os = w.os
  tape : w'.tape = w.tape
  output : w'.output = w.output
  size : w.heap.size ≤ w'.heap.size
  block : ∀ i, i < w.heap.size → i ≠ p → i ≠ g → w'.heap[i]? = w.heap[i]?
theorem Fr.refl (p g : Nat) (w : World) : Fr p g w w := ⟨rfl, rfl, rfl, Nat.le_refl _, fun _ _ _ _ => rfl⟩
theorem Fr.trans {p g g' : Nat} {a b c : World} (h : Fr p g a b) (k : Fr p g' b c) (hg : g' = g ∨ a.heap.size ≤ g') : Fr p g a c :=
  ⟨k.os.trans h.os, k.tape.trans h.tape, k.output.trans h.output, Nat.le_trans h.size k.size, fun i h1 h2 h3 => (k.block i (Nat.lt_of_lt_of_le h1 h.size) h2 (by omega)).trans (h.block i h1 h2 h3)⟩
theorem Two.fr {p g : Nat} {w w' : World} (h : Two p g w w') : Fr p g w w' := ⟨h.os, h.tape, h.output, Nat.le_of_eq h.size, fun i _ h2 h3 => h.block i h2 h3⟩
theorem Fr.of_below {p g : Nat} {w w' : World} (h : Below w.heap.size w w') : Fr p g w w' := ⟨h.os, h.tape, h.output, h.size, fun i h1 _ _ => h.block i h1⟩
theorem Fr.below {p g lo : Nat} {w w' : World} (h : Fr p g w w') (hp : lo ≤ p) (hg : lo ≤ g) (hl : lo ≤ w.heap.size) : Below lo w w' :=
  ⟨h.os, h.tape, h.output, h.size, fun i hi => h.block i (by omega) (by omega) (by omega)⟩

/-- What an append to the heap's slice leaves. -/
theorem pushedF {w w1 : World} {p g c s : Nat} {a : List Nat} {v' : Value} {o : Obj} (h : HG w p g c a)
    (ho' : w1.ownsRow 0 59 1 v' (a.length + 1) (ubs a ++ [.int .u8 (s : Int)])) (hg : (w.alloc o).grownBy w1 (Value.slice (some ⟨g, 0, none⟩) a.length c).ownBlock)
    (hloc : v'.ownBlock = (Value.slice (some ⟨g, 0, none⟩) a.length c).ownBlock ∨ v'.ownBlock = some (w.heap.size + 1)) :
    ∃ g' c', v' = .slice (some ⟨g', 0, none⟩) (a.length + 1) c' ∧ (g' = g ∨ w.heap.size ≤ g') ∧ w1.cell? ⟨p, 0, none⟩ = some (.slice (some ⟨g, 0, none⟩) a.length c) ∧ w1.frozen? ⟨p, 0, none⟩ = false ∧
      HG (w1.setCell ⟨p, 0, none⟩ v') p g' c' (a ++ [s]) ∧ Fr p g w (w1.setCell ⟨p, 0, none⟩ v') := by
  have hlt := h.lt
  have hne := h.ne
  have hp1 : w1.heap[p]? = some (.cells #[.slice (some ⟨g, 0, none⟩) a.length c] 58 (0, 0)) := by
    rw [hg.block p (by simp; omega) (by simp [Value.ownBlock]; exact hne), Below.heap_alloc w _ p hlt.1, h.1]
  obtain ⟨g', c', rfl⟩ : ∃ g' c', v' = .slice (some ⟨g', 0, none⟩) (a.length + 1) c' := by
    rcases ho'.2 with ⟨_, h0⟩ | ⟨g', cap, cur, hv, _⟩
    · omega
    · exact ⟨g', cap, hv⟩
  have hgp : g' ≠ p := by
    rintro rfl
    obtain ⟨cur, h2⟩ := own_cells ho' g' rfl
    rw [hp1] at h2
    injection h2 with h2
    injection h2 with _ h2
    exact absurd h2 (by decide)
  refine ⟨g', c', rfl, ?_, by rw [cell_of_row w1 p 0 _ _ (0, 0) hp1]; rfl, frozen_of_row w1 p 0 _ _ hp1, ⟨?_, ?_⟩, ?_⟩
  · rcases hloc with e | e
    · simp [Value.ownBlock] at e; exact .inl e
    · simp [Value.ownBlock] at e; right; omega
  · rw [show (a ++ [s]).length = a.length + 1 by simp]
    exact heap_setCell_same w1 p 0 _ _ _ hp1
  · have h2 := own_at (w' := w1.setCell ⟨p, 0, none⟩ (.slice (some ⟨g', 0, none⟩) (a.length + 1) c')) ho' fun k hk => by cases hk; exact Below.heap_setCell w1 ⟨p, 0, none⟩ _ g' hgp
    rw [ubs_snoc]
    simpa using h2
  · refine ⟨hg.os, hg.tape, hg.output, by have := hg.size; simp [World.setCell] at this ⊢; omega, fun i h1 h2 h3 => ?_⟩
    rw [Below.heap_setCell w1 ⟨p, 0, none⟩ _ i h2, hg.block i (by simp; omega) (by simp [Value.ownBlock]; exact h3), Below.heap_alloc w _ i h1]

set_option maxRecDepth 100000 in
set_option maxHeartbeats 800000 in
theorem heapPushF (p g c s : Nat) (a : List Nat) (w : World) (h : HG w p g c a) (hl : a.length ≤ 1000) :
    Calls Try.prog 129 #[.pointer (some ⟨p, 0, none⟩), .iface 59 (.int .u8 s)] w fun e w' => e = .returned (.tuple #[]) ∧ ∃ g' c', HG w' p g' c' (a ++ [s]) ∧ (g' = g ∨ w.heap.size ≤ g') ∧ Fr p g w w' := by
  obtain ⟨i0, hi0, hz0, hz1, hz2⟩ := info_parts bits_info
  have c0 := h.c0
  have hta := ta_bits
  have ho := h.2
  have HH := Lib.hid h
  clear h
  go_enter Try.func129, Try.ntmps129
  go_wp2_with (at_builtin; refine wpList_append_own_at _ rfl (.tmp 15) (.tmp 17) 58 rfl 0 59 i0 (.int .u8 0) 1 1 Try.underlying58 hi0 hz0 hz1 hz2 rfl (by decide) _ _ _ rfl (ho.alloc _) ⟨w.heap.size, 0, none⟩ 1 1 [.int .u8 s] rfl rfl (cell_one_new _ _ _) (ints_oneCell .u8 [(s : Int)]) (by unfold maxLen; omega) (by omega) (Nat.zero_le _) ?_)
  intro v' w1 hown' hgrow _ hloc
  obtain ⟨g', c', rfl, k0, k1, k2, k3, k4⟩ := pushedF HH.out hown' hgrow hloc
  have HK := Lib.hid (And.intro k3 k4)
  clear k3 k4 hown' hgrow ho c0 hloc
  go_wp2
  go_end0
  exact ⟨rfl, g', c', HK.out.1, k0, HK.out.2⟩

set_option maxRecDepth 100000 in
set_option maxHeartbeats 800000 in
theorem pushF (p g c s : Nat) (a : List Nat) (w : World) (h : HG w p g c a) (hh : HeapN a a.length) (hl : a.length ≤ 1000) :
    Calls Try.prog 89 #[.iface 56 (.pointer (some ⟨p, 0, none⟩)), .iface 59 (.int .u8 s)] w fun e w' => e = .returned (.tuple #[]) ∧ ∃ g' c' b, HG w' p g' c' b ∧ HeapN b b.length ∧ b.Perm (s :: a) ∧ (g' = g ∨ w.heap.size ≤ g') ∧ Fr p g w w' := by
  have hm1 := m_push
  have hm2 := m_len
  have HU := Lib.hid (Up.start hh s)
  clear hh
  go_enter Try.func89, Try.ntmps89
  go_wp2_with fail
  refine (heapPushF p g c s a _ h hl).mono ?_
  rintro e w1 ⟨rfl, g', c', hg1, hgg, hf1⟩
  have hP : (a ++ [s]).Perm (s :: a) := List.perm_append_comm
  have HPm := Lib.hid hP
  obtain ⟨n, hn⟩ : ∃ n, n = a.length := ⟨_, rfl⟩
  have hA : (a ++ [s]).length = n + 1 := by simp [hn]
  rw [← hn] at HU
  have hn1 : n ≤ 1000 := by omega
  generalize a ++ [s] = A1 at *
  clear hP h hn
  go_wp2_with fail
  refine (heapLen_any p g' c' A1 _ hg1).mono ?_
  rintro e w' ⟨rfl, rfl⟩
  go_wp2_with fail
  refine (up_i p g' c' A1 n _ (by omega) _ hg1 HU.out (by omega)).mono ?_
  rintro e w2 ⟨rfl, b, hgb, hsf, hhp, htw⟩
  have HR := Lib.hid (show HG w2 p g' c' b ∧ HeapN b b.length ∧ b.Perm (s :: a) ∧ (g' = g ∨ w.heap.size ≤ g') ∧ Fr p g w w2 from
    ⟨hgb, hhp, hsf.2.1.trans HPm.out, hgg, hf1.trans htw.fr hgg⟩)
  clear hgb hsf hhp htw hg1 hgg hf1
  go_wp2
  go_end0
  exact ⟨rfl, g', c', b, HR.out⟩

set_option maxRecDepth 100000 in
set_option maxHeartbeats 400000 in
theorem addF (p g c s : Nat) (a : List Nat) (w : World) (h : HG w p g c a) (hh : HeapN a a.length) (hl : a.length ≤ 1000) :
    Calls Try.prog 56 #[.pointer (some ⟨p, 0, none⟩), .int .u8 s] w fun e w' => e = .returned (.tuple #[]) ∧ ∃ g' c' b, HG w' p g' c' b ∧ HeapN b b.length ∧ b.Perm (s :: a) ∧ (g' = g ∨ w.heap.size ≤ g') ∧ Fr p g w w' := by
  go_enter Try.func56, Try.ntmps56
  go_wp2_with fail
  refine (pushF p g c s a _ h hh hl).mono ?_
  rintro e w1 ⟨rfl, HR⟩
  have HR := Lib.hid HR
  go_wp2
  go_end0
  exact ⟨rfl, HR.out⟩

/-- A family of the call's own; of the rest only the heap was written. -/
def FamF (w : World) (p g : Nat) (K : List Nat) (e : Ending) (w' : World) : Prop :=
  ∃ A c, e = .returned (.slice A K.length c) ∧ w'.ownsRow w.heap.size 59 1 (.slice A K.length c) K.length (ubs K) ∧ Fr p g w w'

theorem app_fr {B : Nat} {w1 w2 : World} {o : Obj} {n : Nat} {e : TypeId} {v : Value} {xs : List Value} (hown : w1.ownsRow B e 1 v n xs) (hB : B ≤ w1.heap.size) (hg : (w1.alloc o).grownBy w2 v.ownBlock) : Below B w1 w2 :=
  ⟨hg.os, hg.tape, hg.output, by have := hg.size; simp at this; omega, fun i h1 => by
    rw [hg.block i (by simp; omega) (fun e => by have := (hown.lt i e.symm).1; omega), Below.heap_alloc w1 _ i (by omega)]⟩
theorem Fr.then_ {p g : Nat} {a b c : World} (h : Fr p g a b) (k : Below a.heap.size b c) : Fr p g a c :=
  ⟨k.os.trans h.os, k.tape.trans h.tape, k.output.trans h.output, Nat.le_trans h.size k.size, fun i h1 h2 h3 => (k.block i h1).trans (h.block i h1 h2 h3)⟩

set_option maxRecDepth 100000 in
set_option maxHeartbeats 1600000 in
theorem minimalF (p g c : Nat) (S a : List Nat) (w : World) (hg : HG w p g c a) (hh : HeapN a a.length) (hp : a.Perm S) (hS : Msk S) (hl : a.length ≤ 1000) :
    Calls Try.prog 57 #[.pointer (some ⟨p, 0, none⟩)] w (FamF w p g (mins S)) := by
  obtain ⟨i0, hi0, hz0, hz1, hz2⟩ := info_parts bits_info
  have hta := ta_bits
  have hpw := hg.lt
  have HK0 := Lib.hid (Kept.start S a hp)
  have HH0 := Lib.hid hh
  have HS := Lib.hid hS
  clear hh hp hS
  go_enter Try.func57, Try.ntmps57
  go_wp2
  go_loopw [3] (fun v wr => ∃ b K : List Nat, HG wr p g c b ∧ b.length ≤ 1000 ∧ Hid (HeapN b b.length ∧ Kept S b K) ∧ wr.ownsRow w.heap.size 59 1 v K.length (ubs K) ∧ Fr p g w wr) (fun _ wr => hlen wr p)
  case atStart => exact ⟨a, [], hg, hl, ⟨HH0.out, HK0.out⟩, World.ownsRow_nil _ _ _ _, Fr.refl _ _ _⟩
  case round =>
    clear hg
    obtain ⟨b, K, hb, hbl, hk, hown, hbel⟩ := hrel
    have HL := Lib.hid hb.hlen
    by_cases hb0 : b.length = 0
    · have hbe := List.eq_nil_of_length_eq_zero hb0
      subst hbe
      have HM := Lib.hid (hk.out.2.done HS.out)
      obtain ⟨A', c', rfl⟩ := own_slice hown
      have HO := Lib.hid (And.intro hown hbel)
      clear hk hown hbel hb0
      go_wp2_with fail
      refine (heapLen_any p g c [] _ hb).mono ?_
      rintro e w' ⟨rfl, rfl⟩
      go_wp2
      go_ret
      rw [← HM.out]
      exact ⟨A', c', rfl, HO.out.1, HO.out.2⟩
    · obtain ⟨n, hn⟩ : ∃ n, b.length = n + 1 := ⟨b.length - 1, by omega⟩
      have hKM := (hk.out.2.msk HS.out)
      have hKl := hk.out.2.len HS.out
      have hs64 : b.getD 0 0 < 64 := set_lt hKM.1 (by omega)
      have hK2 := hKM.2
      clear hKM
      go_wp2_with fail
      refine (heapLen_any p g c b _ hb).mono ?_
      rintro e w' ⟨rfl, rfl⟩
      have hpos : (0 : Int) < (b.length : Int) := by omega
      go_wp2_with fail
      refine (pop_any p g c n b _ hb hk.out.1 hn (by omega)).mono ?_
      rintro e w1 ⟨rfl, b', hb', hperm, hhp, hmin, hbl', htw⟩
      have HST := Lib.hid (hk.out.2.step HS.out hperm hmin)
      have HHP := Lib.hid hhp
      have hs1 := htw.size
      have hbel1 : Fr p g w w1 := hbel.trans htw.fr (.inl rfl)
      have hown1 : w1.ownsRow w.heap.size 59 1 _ K.length (ubs K) := own_at hown fun k hk' => htw.block k (by have := (hown.lt k hk').1; omega) (by have := (hown.lt k hk').1; omega)
      clear hown hbel hperm hhp hmin hb htw hk
      obtain ⟨A', c', rfl⟩ := own_slice hown1
      have hib := (IB.of_own hown1).1
      generalize b.getD 0 0 = s at *
      cases hq : hasQ K s
      · have HQ := Lib.hid hq
        clear hq
        go_wp2_with fail
        refine (hasQuorum_any _ _ _ _ _ hib (by omega) hK2 hs64).mono ?_
        rintro e w' ⟨he, rfl⟩
        rw [HQ.out] at he
        subst he
        go_wp2_with (at_builtin; refine wpList_append_own _ rfl (.tmp 23) (.tmp 25) 63 rfl w.heap.size 59 i0 (.int .u8 0) 1 1 Try.underlying63 hi0 hz0 hz1 hz2 rfl (by decide) _ _ _ rfl (hown1.alloc _) ⟨w1.heap.size, 0, none⟩ 1 1 [.int .u8 (s : Nat)] rfl rfl (cell_one_new _ _ _) (ints_oneCell .u8 [(s : Int)]) (by unfold maxLen; omega) (by omega) (by have := hbel1.size; simp; omega) ?_)
        intro v' w2 hown2 hgrow _
        have R := Lib.hid (show HG w2 p g c b' ∧ w2.ownsRow w.heap.size 59 1 v' (K ++ [s]).length (ubs (K ++ [s])) ∧ Fr p g w w2 ∧ hlen w2 p < hlen wr p by
          have hb1 := hbel1.size
          have e1 : ∀ k, k < w.heap.size → w2.heap[k]? = w1.heap[k]? := fun k hk => by
            rw [hgrow.block k (by simp; omega) (fun e => by have := (hown1.lt k e.symm).1; omega), Below.heap_alloc w1 _ k (by omega)]
          have hg2 : HG w2 p g c b' := hb'.kept (e1 p hpw.1) (e1 g hpw.2)
          refine ⟨hg2, ?_, ?_, ?_⟩
          · rw [ubs_snoc]; simpa using hown2
          · exact hbel1.then_ (app_fr hown1 hb1 hgrow)
          · rw [hg2.hlen, HL.out]; omega)
        clear hown1 hown2 hgrow hbel1 hib hb'
        go_wp2
        go_roundw
        case rel => exact ⟨b', K ++ [s], R.out.1, by omega, ⟨HHP.out, HST.out.2 HQ.out⟩, R.out.2.1, R.out.2.2.1⟩
        case measure => exact R.out.2.2.2
      · have HQ := Lib.hid hq
        clear hq
        go_wp2_with fail
        refine (hasQuorum_any _ _ _ _ _ hib (by omega) hK2 hs64).mono ?_
        rintro e w' ⟨he, rfl⟩
        rw [HQ.out] at he
        subst he
        have R := Lib.hid (show HG w1 p g c b' ∧ w1.ownsRow w.heap.size 59 1 (.slice A' K.length c') K.length (ubs K) ∧ Fr p g w w1 ∧ hlen w1 p < hlen wr p from
          ⟨hb', hown1, hbel1, by rw [hb'.hlen, HL.out]; omega⟩)
        clear hown1 hbel1 hib hb'
        go_wp2
        go_roundw
        case rel => exact ⟨b', K, R.out.1, by omega, ⟨HHP.out, HST.out.1 HQ.out⟩, R.out.2.1, R.out.2.2.1⟩
        case measure => exact R.out.2.2.2
end Go.Proofs.Ytgbijndfpbcjeaa
