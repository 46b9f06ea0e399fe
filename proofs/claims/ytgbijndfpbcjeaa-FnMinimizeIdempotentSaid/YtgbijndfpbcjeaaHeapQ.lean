/- Sets pushed on the heap and popped from it, the minimal ones kept; quorums as lists: by their contracts. -/
import Derived.Test.YtgbijndfpbcjeaaHeapP
namespace Go.Proofs.Ytgbijndfpbcjeaa
open Go.RowKit

theorem up_i (p g c : Nat) (a : List Nat) (j : Nat) (J : Int) (hJ : J = (j : Int)) (w : World) (h : HG w p g c a) (hu : Up a j) (hl : a.length ≤ 1048576) :
    Calls Try.prog 103 #[.iface 56 (.pointer (some ⟨p, 0, none⟩)), .int .i64 J] w fun e w' => e = .returned (.tuple #[]) ∧ ∃ b, HG w' p g c b ∧ Sift a b a.length ∧ HeapN b b.length ∧ Two p g w w' := by
  subst hJ
  exact up_any p g c a j w h hu hl
theorem down_i (p g c n : Nat) (N : Int) (hN : N = (n : Int)) (a : List Nat) (w : World) (h : HG w p g c a) (hu : Dn a n 0) (hl : a.length ≤ 1048576) :
    Calls Try.prog 104 #[.iface 56 (.pointer (some ⟨p, 0, none⟩)), .int .i64 0, .int .i64 N] w fun e w' => (∃ r, e = .returned (.bool r)) ∧ ∃ b, HG w' p g c b ∧ Sift a b n ∧ HeapN b n ∧ Two p g w w' := by
  subst hN
  exact down_any p g c n a w h hu hl

set_option maxRecDepth 100000 in
set_option maxHeartbeats 400000 in
theorem hsLen_any (lo p : Nat) (a : List Nat) (w : World) (h : HS w lo p a) :
    Calls Try.prog 90 #[.pointer (some ⟨p, 0, none⟩)] w fun e w' => e = .returned (.int .i64 a.length) ∧ w = w' := by
  obtain ⟨_, v, hp, ho⟩ := h
  obtain ⟨A', c', rfl⟩ := own_slice ho
  have c0 : w.cell? ⟨p, 0, none⟩ = some (.slice A' a.length c') := by rw [cell_of_row w p 0 _ _ (0, 0) hp]; rfl
  clear hp ho
  go_enter Try.func90, Try.ntmps90
  go_wp2
  go_ret
  exact ⟨rfl, rfl⟩

/-- A heap of the masks a, the least first. -/
def HeapAt (w : World) (lo p : Nat) (a : List Nat) : Prop := HS w lo p a ∧ HeapN a a.length

set_option maxRecDepth 100000 in
set_option maxHeartbeats 800000 in
theorem push_any (lo p s : Nat) (a : List Nat) (w : World) (h : HeapAt w lo p a) (hl : a.length ≤ 1000) :
    Calls Try.prog 89 #[.iface 56 (.pointer (some ⟨p, 0, none⟩)), .iface 59 (.int .u8 s)] w fun e w' => e = .returned (.tuple #[]) ∧ ∃ b, HeapAt w' lo p b ∧ b.Perm (s :: a) ∧ b.length = a.length + 1 ∧ Below lo w w' := by
  have hm1 := m_push
  have hm2 := m_len
  have hlo : lo ≤ p := h.1.1
  go_enter Try.func89, Try.ntmps89
  go_wp2_with fail
  refine (heapPush_any lo p s a _ h.1 hl).mono ?_
  rintro e w1 ⟨rfl, hs1, hb1⟩
  obtain ⟨g, c, hg1, hlg⟩ := hs1.hg (by simp)
  have HU := Lib.hid (Up.start h.2 s)
  have hP : (a ++ [s]).Perm (s :: a) := List.perm_append_comm
  have HPm := Lib.hid hP
  obtain ⟨n, hn⟩ : ∃ n, n = a.length := ⟨_, rfl⟩
  have hA : (a ++ [s]).length = n + 1 := by simp [hn]
  rw [← hn] at HU
  have HN := Lib.hid hn
  have hn1 : n ≤ 1000 := by omega
  generalize a ++ [s] = A1 at *
  clear hP hs1 h hn
  go_wp2_with fail
  refine (heapLen_any p g c A1 _ hg1).mono ?_
  rintro e w' ⟨rfl, rfl⟩
  go_wp2_with fail
  refine (up_i p g c A1 n _ (by omega) _ hg1 HU.out (by omega)).mono ?_
  rintro e w2 ⟨rfl, b, hgb, hsf, hhp, htw⟩
  have HR := Lib.hid (show HeapAt w2 lo p b ∧ b.Perm (s :: a) ∧ b.length = a.length + 1 ∧ Below lo w w2 from
    ⟨⟨hgb.hs hlo hlg, hhp⟩, hsf.2.1.trans HPm.out, by rw [← HN.out]; exact hsf.1.trans hA, hb1.trans (htw.below hlo hlg)⟩)
  clear hgb hsf hhp htw hb1 hg1
  go_wp2
  go_end0
  exact ⟨rfl, b, HR.out⟩

set_option maxRecDepth 100000 in
set_option maxHeartbeats 400000 in
theorem add_any (lo p s : Nat) (a : List Nat) (w : World) (h : HeapAt w lo p a) (hl : a.length ≤ 1000) :
    Calls Try.prog 56 #[.pointer (some ⟨p, 0, none⟩), .int .u8 s] w fun e w' => e = .returned (.tuple #[]) ∧ ∃ b, HeapAt w' lo p b ∧ b.Perm (s :: a) ∧ b.length = a.length + 1 ∧ Below lo w w' := by
  go_enter Try.func56, Try.ntmps56
  go_wp2_with fail
  refine (push_any lo p s a _ h hl).mono ?_
  rintro e w1 ⟨rfl, HR⟩
  have HR := Lib.hid HR
  go_wp2
  go_end0
  exact ⟨rfl, HR.out⟩

set_option maxRecDepth 100000 in
set_option maxHeartbeats 800000 in
theorem pop_any (p g c n : Nat) (a : List Nat) (w : World) (h : HG w p g c a) (hh : HeapN a a.length) (hn : a.length = n + 1) (hl : n ≤ 1000) :
    Calls Try.prog 91 #[.iface 56 (.pointer (some ⟨p, 0, none⟩))] w fun e w' => e = .returned (.iface 59 (.int .u8 ((a.getD 0 0 : Nat) : Int))) ∧ ∃ b, HG w' p g c b ∧ a.Perm (a.getD 0 0 :: b) ∧ HeapN b b.length ∧ (∀ x ∈ b, a.getD 0 0 ≤ x) ∧ b.length = n ∧ Two p g w w' := by
  have hm1 := m_pop
  have hm2 := m_len
  have hm3 := m_swap
  have HH := Lib.hid hh
  clear hh
  generalize hx : a.getD 0 0 = x
  have HX := Lib.hid hx
  clear hx
  go_enter Try.func91, Try.ntmps91
  go_wp2_with fail
  refine (heapLen_any p g c a _ h).mono ?_
  rintro e w' ⟨rfl, rfl⟩
  go_wp2_with fail
  refine (heapSwap_i p g c 0 n _ _ (by omega) (by omega) a _ h (by omega) (by omega)).mono ?_
  rintro e w1 ⟨rfl, h1, t1⟩
  have hs1 : (swp a 0 n).length = n + 1 := by rw [swp_len]; exact hn
  have HD := Lib.hid (Dn.start (a := a) (n := n) (by rw [← hn]; exact HH.out) hn)
  clear h
  go_wp2_with fail
  refine (down_i p g c n _ (by omega) (swp a 0 n) _ h1 HD.out (by omega)).mono ?_
  rintro e w2 ⟨⟨r, rfl⟩, b, h2, hsf, hhp, t2⟩
  have HPp := Lib.hid (popped hn (by rw [← hn]; exact HH.out) hsf hhp)
  rw [HX.out] at HPp
  have hbl : b.length = n + 1 := HPp.out.1
  have HS2 := Lib.hid hsf
  have HH2 := Lib.hid hhp
  clear h1 hsf hhp
  go_wp2_with fail
  refine (heapPop_any p g c n b _ h2 (by omega) hbl).mono ?_
  rintro e w3 ⟨rfl, h3, t3⟩
  have HT := Lib.hid ((t1.trans t2).trans t3)
  have HB := Lib.hid h3
  clear h2 t1 t2 t3 h3
  have HE := Lib.hid HPp.out.2.1
  generalize b.getD n 0 = y at *
  obtain rfl : y = x := HE.out
  go_wp2
  go_ret
  exact ⟨rfl, b.take n, HB.out, HPp.out.2.2.1, HPp.out.2.2.2.1, HPp.out.2.2.2.2, by simp; omega, HT.out⟩

theorem app_low {lo : Nat} {w1 w2 : World} {o : Obj} {base n : Nat} {e : TypeId} {v : Value} {xs : List Value} (hown : w1.ownsRow base e 1 v n xs) (hbase : lo ≤ base) (hlo : lo ≤ w1.heap.size) (hg : (w1.alloc o).grownBy w2 v.ownBlock) : Below lo w1 w2 :=
  ((Below.refl lo w1).alloc hlo o).grown hg (by simp; omega) (fun k hk => Nat.le_trans hbase (hown.lt k hk).1)
/-- How many sets the heap at block p holds. -/
def hlen (w : World) (p : Nat) : Nat := match w.cell? ⟨p, 0, none⟩ with | some (.slice _ n _) => n | _ => 0
theorem HG.hlen {w : World} {p g c : Nat} {a : List Nat} (h : HG w p g c a) : hlen w p = a.length := by unfold Go.Proofs.Ytgbijndfpbcjeaa.hlen; rw [h.c0]

/-- A family of the call's own. -/
def Fam (w : World) (lo : Nat) (K : List Nat) (e : Ending) (w' : World) : Prop :=
  ∃ A c, e = .returned (.slice A K.length c) ∧ w'.ownsRow w.heap.size 59 1 (.slice A K.length c) K.length (ubs K) ∧ Below lo w w'

set_option maxRecDepth 100000 in
set_option maxHeartbeats 1600000 in
theorem minimal_any (lo p : Nat) (S a : List Nat) (w : World) (h : HeapAt w lo p a) (hp : a.Perm S) (hS : Msk S) (hl : a.length ≤ 1000) :
    Calls Try.prog 57 #[.pointer (some ⟨p, 0, none⟩)] w (Fam w lo (mins S)) := by
  obtain ⟨i0, hi0, hz0, hz1, hz2⟩ := info_parts bits_info
  have hta := ta_bits
  by_cases hnil : a = []
  · subst hnil
    have HM := Lib.hid ((Kept.start S [] hp).done hS)
    have hh := h.1
    go_enter Try.func57, Try.ntmps57
    go_wp2
    go_loopw [3] (fun v wr => v = .slice none 0 0 ∧ wr = w) (fun _ _ => 0)
    case atStart => exact ⟨rfl, rfl⟩
    case round =>
      obtain ⟨rfl, rfl⟩ := hrel
      go_wp2_with fail
      refine (hsLen_any lo p [] _ hh).mono ?_
      rintro e w' ⟨rfl, rfl⟩
      go_wp2
      go_ret
      rw [← HM.out]
      exact ⟨none, 0, rfl, World.ownsRow_nil _ _ _ _, Below.refl _ _⟩
  · obtain ⟨g, c, hg, hlg⟩ := h.1.hg hnil
    have hlp : lo ≤ p := h.1.1
    have hpw := hg.lt
    have HK0 := Lib.hid (Kept.start S a hp)
    have HH0 := Lib.hid h.2
    have HS := Lib.hid hS
    clear h hp hS hnil
    go_enter Try.func57, Try.ntmps57
    go_wp2
    go_loopw [3] (fun v wr => ∃ b K : List Nat, HG wr p g c b ∧ b.length ≤ 1000 ∧ Hid (HeapN b b.length ∧ Kept S b K) ∧ wr.ownsRow w.heap.size 59 1 v K.length (ubs K) ∧ Below lo w wr) (fun _ wr => hlen wr p)
    case atStart => exact ⟨a, [], hg, hl, ⟨HH0.out, HK0.out⟩, World.ownsRow_nil _ _ _ _, Below.refl _ _⟩
    case round =>
      clear hg
      obtain ⟨b, K, hb, hbl, hk, hown, hbel⟩ := hrel
      have HL := Lib.hid hb.hlen
      by_cases hb0 : b.length = 0
      · have hbe := List.eq_nil_of_length_eq_zero hb0
        subst hbe
        have HM := Lib.hid (hk.out.2.done HS.out)
        obtain ⟨A', c', rfl⟩ := own_slice hown
        have HO := Lib.hid (And.intro hown hbel)
        clear hk hown hbel hb0
        go_wp2_with fail
        refine (heapLen_any p g c [] _ hb).mono ?_
        rintro e w' ⟨rfl, rfl⟩
        go_wp2
        go_ret
        rw [← HM.out]
        exact ⟨A', c', rfl, HO.out.1, HO.out.2⟩
      · obtain ⟨n, hn⟩ : ∃ n, b.length = n + 1 := ⟨b.length - 1, by omega⟩
        have hKM := (hk.out.2.msk HS.out)
        have hKl := hk.out.2.len HS.out
        have hs64 : b.getD 0 0 < 64 := set_lt hKM.1 (by omega)
        have hK2 := hKM.2
        clear hKM
        go_wp2_with fail
        refine (heapLen_any p g c b _ hb).mono ?_
        rintro e w' ⟨rfl, rfl⟩
        have hpos : (0 : Int) < (b.length : Int) := by omega
        go_wp2_with fail
        refine (pop_any p g c n b _ hb hk.out.1 hn (by omega)).mono ?_
        rintro e w1 ⟨rfl, b', hb', hperm, hhp, hmin, hbl', htw⟩
        have HST := Lib.hid (hk.out.2.step HS.out hperm hmin)
        have HHP := Lib.hid hhp
        have hs1 := htw.size
        have hbel1 : Below lo w w1 := hbel.trans (htw.below hlp hlg)
        have hown1 : w1.ownsRow w.heap.size 59 1 _ K.length (ubs K) := own_at hown fun k hk' => htw.block k (by have := (hown.lt k hk').1; omega) (by have := (hown.lt k hk').1; omega)
        clear hown hbel hperm hhp hmin hb htw hk
        obtain ⟨A', c', rfl⟩ := own_slice hown1
        have hib := (IB.of_own hown1).1
        generalize b.getD 0 0 = s at *
        cases hq : hasQ K s
        · have HQ := Lib.hid hq
          clear hq
          go_wp2_with fail
          refine (hasQuorum_any _ _ _ _ _ hib (by omega) hK2 hs64).mono ?_
          rintro e w' ⟨he, rfl⟩
          rw [HQ.out] at he
          subst he
          go_wp2_with (at_builtin; refine wpList_append_own _ rfl (.tmp 23) (.tmp 25) 63 rfl w.heap.size 59 i0 (.int .u8 0) 1 1 Try.underlying63 hi0 hz0 hz1 hz2 rfl (by decide) _ _ _ rfl (hown1.alloc _) ⟨w1.heap.size, 0, none⟩ 1 1 [.int .u8 (s : Nat)] rfl rfl (cell_one_new _ _ _) (ints_oneCell .u8 [(s : Int)]) (by unfold maxLen; omega) (by omega) (by have := hbel1.size; simp; omega) ?_)
          intro v' w2 hown2 hgrow _
          have R := Lib.hid (show HG w2 p g c b' ∧ w2.ownsRow w.heap.size 59 1 v' (K ++ [s]).length (ubs (K ++ [s])) ∧ Below lo w w2 ∧ hlen w2 p < hlen wr p by
            have hb1 := hbel1.size
            have e1 : ∀ k, k < w.heap.size → w2.heap[k]? = w1.heap[k]? := fun k hk => by
              rw [hgrow.block k (by simp; omega) (fun e => by have := (hown1.lt k e.symm).1; omega), Below.heap_alloc w1 _ k (by omega)]
            have hg2 : HG w2 p g c b' := hb'.kept (e1 p hpw.1) (e1 g hpw.2)
            refine ⟨hg2, ?_, ?_, ?_⟩
            · rw [ubs_snoc]; simpa using hown2
            · exact hbel1.trans (app_low hown1 (by omega) (by omega) hgrow)
            · rw [hg2.hlen, HL.out]; omega)
          clear hown1 hown2 hgrow hbel1 hib hb'
          go_wp2
          go_roundw
          case rel => exact ⟨b', K ++ [s], R.out.1, by omega, ⟨HHP.out, HST.out.2 HQ.out⟩, R.out.2.1, R.out.2.2.1⟩
          case measure => exact R.out.2.2.2
        · have HQ := Lib.hid hq
          clear hq
          go_wp2_with fail
          refine (hasQuorum_any _ _ _ _ _ hib (by omega) hK2 hs64).mono ?_
          rintro e w' ⟨he, rfl⟩
          rw [HQ.out] at he
          subst he
          have R := Lib.hid (show HG w1 p g c b' ∧ w1.ownsRow w.heap.size 59 1 (.slice A' K.length c') K.length (ubs K) ∧ Below lo w w1 ∧ hlen w1 p < hlen wr p from
            ⟨hb', hown1, hbel1, by rw [hb'.hlen, HL.out]; omega⟩)
          clear hown1 hbel1 hib hb'
          go_wp2
          go_roundw
          case rel => exact ⟨b', K, R.out.1, by omega, ⟨HHP.out, HST.out.1 HQ.out⟩, R.out.2.1, R.out.2.2.1⟩
          case measure => exact R.out.2.2.2
end Go.Proofs.Ytgbijndfpbcjeaa
