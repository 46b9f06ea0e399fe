/- The subsets of the set of all members, one after the other: the iterator's contract. -/
import Derived.RangeFuncNested
import Derived.RangeFuncBound
import Derived.RangeFuncCalls
import Derived.RangeFuncLeaves
import Derived.Shelf.Abstract
import Derived.Shelf.RegionOpen
import Derived.WalkKit
import Derived.OwnWalkIn
import Derived.TacticsInMore
import Derived.LoopNIn
import Derived.LoopIn
import Derived.Test.YtbkdhjmfphhhoaaGc
import Derived.Test.YtbkdhjmfphhhoaaGa
import Derived.Deep.RegionLaw
import Derived.BigRegion
import Derived.Test.YtbkdhjmfphhhoaaGb
import Derived.Deep.AppendLies
namespace Go.Proofs.Ytbkdhjmfphhhoaa
open Go.RowKit Go.Shelf
attribute [local go_sem] Oper.semAt_some

abbrev Sub64 := { x : Nat // x < 64 }
def encB (x : Sub64) : Array Value := #[.int .u8 (x.1 : Int)]
def vals (l : List Sub64) : List Nat := l.map fun x => x.1
theorem vals_snoc (l : List Sub64) (x : Sub64) : vals (l ++ [x]) = vals l ++ [x.1] := by simp [vals]
theorem sub63 {k : Nat} (h : k < 64) : (andNot k 63 == 0) = true := by
  have H : ∀ k : Fin 64, (andNot k.val 63 == 0) = true := by decide +kernel
  exact H ⟨k, h⟩

end Go.Proofs.Ytbkdhjmfphhhoaa

/- What minimalWhere keeps while it asks subset after subset. -/
namespace Go.Proofs.Ytbkdhjmfphhhoaa
open Go.RowKit Go.Shelf

theorem perm_snoc' {b b' X : List Nat} {m : Nat} (h : b'.Perm (m :: b)) (h2 : b.Perm X) : b'.Perm (X ++ [m]) := h.trans ((List.Perm.cons _ h2).trans (List.perm_append_comm (l₁ := [m])))
end Go.Proofs.Ytbkdhjmfphhhoaa

/- Whether a set meets every quorum, and the maker of the iterator over subsets: the program's, by their contracts. -/
namespace Go.Proofs.Ytbkdhjmfphhhoaa
open Go.RowKit

theorem hits_step {K : List Nat} {k m s : Nat} (h : K[k]? = some m) : hitsQ (K.take (k + 1)) s = (hitsQ (K.take k) s && !((m &&& s) == 0)) := by
  simp [hitsQ, List.take_add_one, h]

end Go.Proofs.Ytbkdhjmfphhhoaa

/- Quorums as lists, and the program's FamilyMinimize, by their contracts. -/
namespace Go.Proofs.Ytbkdhjmfphhhoaa
open Go.RowKit

theorem mems_take {K : List Nat} {k m : Nat} (h : K[k]? = some m) : mems (K.take (k + 1)) = mems (K.take k) ++ [mem m] := by simp [mems, List.take_add_one, h]
theorem mems_len (K : List Nat) : (mems K).length = K.length := by simp [mems]
theorem mems_short (K : List Nat) (n : Nat) (hn : 6 ≤ n) : Short (mems K) n := by
  intro l hl
  obtain ⟨m, _, rfl⟩ := List.mem_map.1 hl
  exact Nat.le_trans (mem_len m) hn
theorem mems_wt (K : List Nat) : wt (mems K) ≤ 6 * K.length := by
  induction K with
  | nil => simp [wt, mems]
  | cons m K ih =>
    have := mem_len m
    simp only [wt, mems, List.map_cons, List.sum_cons, List.length_cons] at ih ⊢
    omega

/-- A row is appended to rows. -/
theorem rows_app {lo hi lo2 hi2 n : Nat} {w1 w2 : World} {F : List (List Int)} {rs xs : List Value} {l : List Int} {x v : Value} {o : Obj}
    (hrows : Rws w1 lo hi F rs) (hx : RowAt w1 lo2 hi2 l x) (h1 : hi ≤ lo2) (h2 : lo ≤ lo2) (h3 : lo2 ≤ hi2) (hown : w1.ownsRow lo 37 1 v n xs) (hg : (w1.alloc o).grownBy w2 v.ownBlock) :
    Rws w2 lo w2.heap.size (F ++ [l]) (rs ++ [x]) := by
  have hh : hi2 ≤ w1.heap.size := by obtain ⟨_, _, _, ho⟩ := hx; exact ho.2.1
  have hR := hrows.snoc hx h1 h2 (by omega)
  have hsz : w1.heap.size ≤ w2.heap.size := by have := hg.size; simp at this; omega
  refine Rws.hi_le (hi := hi2) (hR.at_ (Nat.le_trans hh hsz) fun g _ h5 ⟨cur, hc⟩ => ?_) (Nat.le_trans hh hsz) (Nat.le_refl _)
  rw [hg.block g (by simp; omega) ?_, Below.heap_alloc w1 _ g (by omega)]
  intro e
  obtain ⟨cur2, hc2⟩ := own_cells hown g e.symm
  rw [hc] at hc2
  injection hc2 with hc2
  injection hc2 with _ hc2
  exact ne_types hc2.symm

/-- Rows of the call's own, handed back. -/
def NewSS (w : World) (F : List (List Int)) (e : Ending) (w' : World) : Prop :=
  ∃ A c, e = .returned (.slice A F.length c) ∧ OSS w' w.heap.size w'.heap.size A c F ∧ Below w.heap.size w w'
theorem OSS.of_rows {w : World} {lo c : Nat} {A : Option Addr} {F : List (List Int)} {rs : List Value} (ho : w.ownsRow lo 37 1 (.slice A F.length c) F.length rs) (hr : Rws w lo w.heap.size F rs) : OSS w lo w.heap.size A c F :=
  ⟨rs, ho, Nat.le_refl _, fun g hg => ho.lt g hg, hr⟩
theorem slice_oneCell (A : Option Addr) (n c : Nat) : ∀ u ∈ [Value.slice A n c], u.oneCell' = true := by
  intro u hu
  simp at hu
  subst hu
  rfl

set_option maxRecDepth 100000 in
set_option maxHeartbeats 800000 in
theorem lists_any (A : Option Addr) (c : Nat) (K : List Nat) (w : World) (ha : IB w A K) (hK : Msk K) (hl : K.length ≤ 1000) :
    Calls Try.prog 109 #[.slice A K.length c] w (NewSS w (mems K)) := by
  obtain ⟨i0, hi0, hz0, hz1, hz2⟩ := info_parts slice_info
  go_enter Try.func109, Try.ntmps109
  go_wp2
  go_loopw [3, 8] (fun v i wr => ∃ (k : Nat) (rs : List Value), k ≤ K.length ∧ i = .int .i64 k ∧ rs.length = k ∧ wr.ownsRow w.heap.size 37 1 v rs.length rs ∧ Hid (Rws wr w.heap.size wr.heap.size (mems (K.take k)) rs) ∧ Below w.heap.size w wr) (fun _ i _ => K.length - (intOf i).toNat)
  case atStart => exact ⟨0, [], Nat.zero_le _, rfl, rfl, World.ownsRow_nil _ _ _ _, Rws.nil _ _ _, Below.refl _ _⟩
  case round =>
    obtain ⟨k, rs, hk, rfl, hrl, hown, hrows, hbel⟩ := hrel
    by_cases hlt : k < K.length
    · obtain ⟨b, off, m, rfl, hx, hc⟩ := (ha.below hbel).at_ hlt
      have hm := hK m (List.mem_of_getElem? hx)
      have HM := Lib.hid (mems_take hx)
      have HRL := Lib.hid hrl
      have hrl' : rs.length ≤ 1000 := by omega
      clear hx hrl
      go_wp2_with fail
      refine (members_any m _ hm).mono ?_
      rintro e w1 ⟨A1, c1, rfl, o1, b1⟩
      have hown1 := own_at hown (w' := w1) fun g hg => b1.block g (hown.lt g hg).2
      have hb1 := below_step hbel b1
      have HR1 := Lib.hid (And.intro (hrows.out.below (Nat.le_refl _) b1) (show RowAt w1 wr.heap.size w1.heap.size (mem m) (.slice A1 (mem m).length c1) from ⟨_, _, rfl, Own.of_new o1⟩))
      have hq : w.heap.size ≤ wr.heap.size ∧ wr.heap.size ≤ w1.heap.size := ⟨hbel.size, b1.size⟩
      clear hown hbel b1 o1 hrows hc
      go_wp2_with (at_builtin; refine wpList_append_own _ rfl (.tmp 12) (.tmp 15) 23 rfl w.heap.size 37 i0 (.slice none 0 0) 1 24 Try.underlying23 hi0 hz0 hz1 hz2 rfl (by decide) _ _ _ rfl (hown1.alloc _) ⟨w1.heap.size, 0, none⟩ 1 1 [.slice A1 (mem m).length c1] rfl rfl (cell_one_new _ _ _) (slice_oneCell _ _ _) (by unfold maxLen; omega) (by omega) (by simp; omega) ?_)
      intro v' w2 hown2 hgrow _
      have R := Lib.hid (show w2.ownsRow w.heap.size 37 1 v' (rs ++ [Value.slice A1 (mem m).length c1]).length (rs ++ [Value.slice A1 (mem m).length c1]) ∧ Rws w2 w.heap.size w2.heap.size (mems (K.take (k + 1))) (rs ++ [Value.slice A1 (mem m).length c1]) ∧ Below w.heap.size w w2 by
        refine ⟨by simpa using hown2, ?_, app_gen hown1 (Nat.le_refl _) hb1 hgrow⟩
        rw [HM.out]
        exact rows_app HR1.out.1 HR1.out.2 (Nat.le_refl _) hq.1 hq.2 hown1 hgrow)
      clear hown1 hown2 hgrow hb1 HR1
      go_wp2
      go_roundw
      case rel => exact ⟨k + 1, _, by omega, by go_num, by have := HRL.out; simp; omega, R.out.1, R.out.2.1, R.out.2.2⟩
      case measure => simp [intOf]; omega
    · have hkl : k = K.length := by omega
      subst hkl
      have h1 := hrows.out
      rw [List.take_length] at h1
      rw [hrl, ← mems_len K] at hown
      obtain ⟨A1, c1, rfl⟩ := own_slice hown
      have HO := Lib.hid (OSS.of_rows hown h1)
      clear hown hrows h1 hrl
      go_wp2
      go_ret
      exact ⟨A1, c1, rfl, HO.out, hbel⟩

/-- Rows and a sign, handed back. -/
def NewSS2 (w : World) (F : List (List Int)) (b : Bool) (e : Ending) (w' : World) : Prop :=
  ∃ A c, e = .returned (.tuple #[.slice A F.length c, .bool b]) ∧ OSS w' w.heap.size w'.heap.size A c F ∧ Below w.heap.size w w'
theorem NewSS2.nil {w w' : World} (hb : Below w.heap.size w w') : NewSS2 w [] false (.returned (.tuple #[.slice none 0 0, .bool false])) w' :=
  ⟨none, 0, rfl, OSS.of_rows (World.ownsRow_nil _ _ _ _) (Rws.nil _ _ _), hb⟩
theorem OSS.base {w : World} {lo lo2 hi c : Nat} {A : Option Addr} {F : List (List Int)} (h : OSS w lo hi A c F) (hl : lo2 ≤ lo) : OSS w lo2 hi A c F := by
  obtain ⟨rs, ho, hh, hb, hr⟩ := h
  refine ⟨rs, own_base ho hl, hh, fun g hg => ⟨Nat.le_trans hl (hb g hg).1, (hb g hg).2⟩, hr.1, fun j l v h1 h2 => ?_, hr.2.2⟩
  obtain ⟨A', c', rfl, ho'⟩ := hr.2.1 j l v h1 h2
  exact ⟨A', c', rfl, ho'.mono hl (Nat.le_refl _) hh⟩

/-- What FamilyMinimize asks of its argument. -/
def minIn (F : List (List Int)) : Bool := decide (F.length ≤ 64) && F.all fun l => vld l && decide (0 < msk l)
def minOut (F : List (List Int)) : List (List Int) := if minIn F = true then mems (mins (msks F)) else []
theorem minIn_bad {F : List (List Int)} {k : Nat} {l : List Int} (hx : F[k]? = some l) (h : vld l = false ∨ msk l = 0) : minIn F = false := by
  have : (F.all fun l => vld l && decide (0 < msk l)) = false := by
    rw [List.all_eq_false]
    exact ⟨l, List.mem_of_getElem? hx, by rcases h with h | h <;> simp [h]⟩
  rw [minIn, this, Bool.and_false]

/-- Every quorum of a quorum system is a valid set with a member. -/
theorem fam_row {F : List (List Int)} (h : famOk F = true) {k : Nat} {l : List Int} (hx : F[k]? = some l) : vld l = true ∧ 0 < l.length := by
  have hv := famOk_allV h l (List.mem_of_getElem? hx)
  refine ⟨hv, ?_⟩
  have h0 := (famOk_sys h).2.2.2 (msk l) (List.mem_map.2 ⟨l, List.mem_of_getElem? hx, rfl⟩)
  rcases Nat.eq_zero_or_pos l.length with h1 | h1
  · rw [msk_nil h1] at h0; omega
  · exact h1
end Go.Proofs.Ytbkdhjmfphhhoaa

/- The reference model's minimal sets, by their contracts. -/
namespace Go.Proofs.Ytbkdhjmfphhhoaa
open Go.RowKit

/-- An append to a row of the call's own, at a step of a region that draws its order. -/
theorem step_append_own {P : Program} (w : World) {ops : Array Oper} {o : Oper} {a : Act} {K : Act → World → Prop} {Q : Exit → Act → World → Prop} {E : Prop} (hgd : o.guard = none) (s x : Operand) (t : TypeId)
    (ho : o.op = .call { callee := .builtin .append, args := #[s, x], argTypes := #[t, t] })
    (base : Nat) (e : TypeId) (i : TypeInfo) (z : Value) (size bytes : Nat) (ht : P.underlying t = some (.slice e)) (hi : P.info? e = some i) (hz : i.zero = some z)
    (hsize : i.size = size) (hby : i.bytes = bytes) (hzs : z.cells.size = size) (hsz : 0 < size)
    (v : Value) (n : Nat) (xs : List Value) (hs : a.eval s = v) (hown : w.ownsRow base e size v n xs)
    (ad : Addr) (m c : Nat) (news : List Value) (hx : a.eval x = .slice (some ad) m c) (hl : news.length = m * size) (hnews : ∀ j u, news[j]? = some u → w.cell? (ad.add j) = some u) (h1 : ∀ u ∈ news, u.oneCell' = true)
    (h63 : n + m ≤ maxLen) (hbytes : (n + m) * bytes ≤ 140737488355328) (hbase : base ≤ w.heap.size)
    (h : ∀ v' w', w'.ownsRow base e size v' (n + m) (xs ++ news) → w.grownBy w' v.ownBlock → K (a.put o.dst v') w') :
    if Region.wanted o (yielded ops a.tmps) = true then Oper.wp P o a w K Q else E := by
  have hw : Region.wanted o (yielded ops a.tmps) = true := by simp [Region.wanted, hgd]
  rw [if_pos hw]
  exact wp_append_own w s x t ho base e i z size bytes ht hi hz hsize hby hzs hsz v n xs hs hown ad m c news hx hl hnews h1 h63 hbytes hbase fun v' w' h2 h3 _ => h v' w' h2 h3

theorem ints_one (l : List Int) : ∀ u ∈ l.map (Value.int .i64), u.oneCell' = true := ints_oneCell .i64 l

/-- What the model has found of mask k when q members have been struck in turn. -/
def gd (F : List (List Int)) (k q : Nat) : Bool := hasL F (mem k) && (List.range q).all fun j => !hasL F ((mem k).eraseIdx j)
theorem gd_zero (F : List (List Int)) (k : Nat) : gd F k 0 = hasL F (mem k) := by simp [gd]
theorem gd_succ (F : List (List Int)) (k q : Nat) : gd F k (q + 1) = (gd F k q && !hasL F ((mem k).eraseIdx q)) := by
  simp [gd, List.range_succ, Bool.and_assoc]
theorem gd_false {F : List (List Int)} {k q n : Nat} (hq : q ≤ n) (h : gd F k q = false) : gd F k n = false := by
  rw [Bool.eq_false_iff] at h ⊢
  intro h2
  apply h
  simp only [gd, Bool.and_eq_true, List.all_eq_true, List.mem_range] at h2 ⊢
  exact ⟨h2.1, fun j hj => h2.2 j (by omega)⟩
theorem gd_all {F : List (List Int)} (hV : allV F) {k : Nat} (hk : k < 64) : gd F k (mem k).length = minB (msks F) k := by
  rw [← minS_eq (msks_msk hV) hk, gd, minS, hasL_eq hV (vld_mem hk), msk_mem hk]
  congr 1
  rw [Bool.eq_iff_iff, List.all_eq_true, List.all_eq_true]
  constructor
  · intro h x hx
    obtain ⟨j, hj, e⟩ := List.getElem_of_mem hx
    have h1 := h j (List.mem_range.2 hj)
    obtain ⟨h2, h3⟩ := erase_less hk (i := j) (x := x) (by rw [List.getElem?_eq_getElem hj, e])
    rw [hasL_eq hV h2, h3] at h1
    exact h1
  · intro h j hj
    have hj' := List.mem_range.1 hj
    obtain ⟨h2, h3⟩ := erase_less hk (i := j) (x := (mem k)[j]) (List.getElem?_eq_getElem hj')
    rw [hasL_eq hV h2, h3]
    exact h _ (List.getElem_mem hj')
theorem range_yes {p : Nat → Bool} {k : Nat} (h : p k = true) : (List.range (k + 1)).filter p = (List.range k).filter p ++ [k] := by simp [List.range_succ, h]
theorem range_no {p : Nat → Bool} {k : Nat} (h : p k = false) : (List.range (k + 1)).filter p = (List.range k).filter p := by simp [List.range_succ, h]
theorem range_len (p : Nat → Bool) (k : Nat) : ((List.range k).filter p).length ≤ k := Nat.le_trans (List.length_filter_le _ _) (by simp)

/-- A row that is read from some place on. -/
theorem news_at {w : World} {base g c n : Nat} {l : List Int} (h : w.ownsRow base 3 1 (.slice (some ⟨g, 0, none⟩) n c) n (l.map (Value.int .i64))) {w' : World} (hb : w'.heap[g]? = w.heap[g]?) (q : Nat) (l' : List Int) (hl : ∀ j x, l'[j]? = some x → l[q + j]? = some x) :
    ∀ j u, (l'.map (Value.int .i64))[j]? = some u → w'.cell? ((⟨g, q, none⟩ : Addr).add j) = some u := by
  intro j u hu
  obtain ⟨x, hx, rfl⟩ : ∃ x, l'[j]? = some x ∧ Value.int .i64 x = u := by simpa using hu
  have h1 := hl j x hx
  have h2 := h.cells (g := g) rfl (q + j) (.int .i64 x) (by simp [h1])
  rw [Addr.add_lit] at h2 ⊢
  rw [World.cell?_of_block (w := w) (by exact hb)]
  simpa using h2

set_option maxRecDepth 100000 in
set_option maxHeartbeats 1600000 in
theorem l3Min_any (A : Option Addr) (c : Nat) (F : List (List Int)) (w : World) (ha : ISS w A F) (hl : F.length ≤ 1048576) (hs : Short F 1048576) (hV : allV F) :
    Calls Try.prog 153 #[.slice A F.length c] w (NewSS w (mems (mins (msks F)))) := by
  obtain ⟨i0, hi0, hz0, hz1, hz2⟩ := info_parts slice_info
  obtain ⟨j0, hj0, hy0, hy1, hy2⟩ := info_parts int_info
  have HV := Lib.hid hV
  clear hV
  have h00 : (w.alloc (.cells #[] 37)).ownsRow w.heap.size 37 1 (.slice (some ⟨w.heap.size, 0, none⟩) 0 0) 0 [] := World.ownsRow_made w #[] 0 (Nat.le_refl _) (by unfold maxLen; omega) (by simp)
  have hb00 : Below w.heap.size w (w.alloc (.cells #[] 37)) := (Below.refl _ w).alloc (Nat.le_refl _) _
  have H00 := Lib.hid (And.intro h00 hb00)
  clear h00 hb00
  go_enter Try.func153, Try.ntmps153
  go_wp2
  go_loopw [3, 4] (fun v i wr => ∃ (k : Nat) (rs : List Value), k ≤ 64 ∧ i = .int .i64 k ∧ rs.length ≤ 64 ∧ wr.ownsRow w.heap.size 37 1 v rs.length rs ∧ Hid (Rws wr w.heap.size wr.heap.size (mems ((List.range k).filter (minB (msks F)))) rs) ∧ Below w.heap.size w wr) (fun _ i _ => 64 - (intOf i).toNat)
  case atStart => exact ⟨0, [], by omega, rfl, by simp, H00.out.1, Rws.nil _ _ _, H00.out.2⟩
  case round =>
    clear H00
    obtain ⟨k, rs, hk, rfl, hrl, hown, hrows, hbel⟩ := hrel
    by_cases hlt : k < 64
    · go_wp2_with fail
      refine (l1Masks_any _).mono ?_
      rintro e w' ⟨rfl, rfl⟩
      go_wp2_with fail
      refine (l1OfMask_any k _ hlt).mono ?_
      rintro e w1 ⟨A1, c1, rfl, o1, b1⟩
      have hil := (IL.of_own o1).1
      have hml := mem_len k
      have HO1 := Lib.hid (And.intro (own_at hown (w' := w1) fun g hg => b1.block g (hown.lt g hg).2) (And.intro (hrows.out.below (Nat.le_refl _) b1) (Own.of_new o1)))
      have hbw1 := below_step hbel b1
      have hso : w.heap.size ≤ wr.heap.size ∧ wr.heap.size ≤ w1.heap.size := ⟨hbel.size, b1.size⟩
      clear hown hrows hbel b1
      generalize wr.heap.size = so at *
      have ha1 := ha.below hbw1
      go_wp2_with fail
      refine (l3Has_any _ _ _ _ _ _ _ ha1 hil hl hs (by omega)).mono ?_
      rintro e w' ⟨rfl, rfl⟩
      have HG0 := Lib.hid (gd_zero F k)
      generalize hasL F (mem k) = mb0 at *
      go_wp2
      go_loopw [6, 7] (fun m i wq => ∃ (q : Nat) (mb : Bool), q ≤ (mem k).length ∧ i = .int .i64 q ∧ m = .bool mb ∧ Hid (gd F k q = mb) ∧ Below w1.heap.size w1 wq) (fun _ i _ => (mem k).length - (intOf i).toNat)
      case atStart => exact ⟨0, mb0, Nat.zero_le _, rfl, rfl, HG0.out, Below.refl _ _⟩
      case round =>
        clear HG0
        obtain ⟨q, mb, hq, rfl, rfl, hgd, hbq⟩ := hrel
        cases mb
        · have HN := Lib.hid (show minB (msks F) k = false by rw [← gd_all HV.out hlt]; exact gd_false hq hgd.out)
          have R := Lib.hid (show wr.ownsRow w.heap.size 37 1 _ rs.length rs ∧ Rws wr w.heap.size wr.heap.size (mems ((List.range (k + 1)).filter (minB (msks F)))) rs ∧ Below w.heap.size w wr by
            refine ⟨own_at HO1.out.1 fun g hg => hbq.block g (HO1.out.1.lt g hg).2, ?_, below_step hbw1 hbq⟩
            rw [range_no HN.out]
            exact Rws.hi_le (HO1.out.2.1.below (by omega) hbq) (by have := hbq.size; omega) (Nat.le_refl _))
          clear hgd HO1
          by_cases hql : q < (mem k).length
          · go_wp2
            go_roundw
            case rel => exact ⟨k + 1, rs, by omega, by go_num, hrl, R.out.1, R.out.2.1, R.out.2.2⟩
            case measure => simp [intOf]; omega
          · go_wp2
            go_roundw
            case rel => exact ⟨k + 1, rs, by omega, by go_num, hrl, R.out.1, R.out.2.1, R.out.2.2⟩
            case measure => simp [intOf]; omega
        · by_cases hql : q < (mem k).length
          · obtain ⟨g, rfl, hg1, hg2⟩ := own_form o1 (by omega)
            have hcap : (mem k).length ≤ c1 := by
              rcases o1.2 with ⟨h0, _⟩ | ⟨g', cap, cur, hv, h3, h4, h5, _⟩
              · cases h0
              · injection hv with _ _ hv2; omega
            have hq0 : (0 : Int) ≤ (q : Int) := by omega
            have hqc : (q : Int) ≤ (c1 : Int) := by omega
            have hq1 : (q : Int) + 1 ≤ ((mem k).length : Int) := by omega
            have hq6 : q ≤ 6 := by omega
            have hqw : IntKind.i64.wrap ((q : Int) + 1) = (q : Int) + 1 := by rw [IntKind.wrap_i64]; omega
            have hqn : ((q : Int) + 1).toNat = q + 1 := by omega
            have hq2 : (0 : Int) ≤ (q : Int) + 1 := by omega
            have hq3 : (q : Int) + 1 ≤ (c1 : Int) := by omega
            obtain ⟨ad, had, had2⟩ : ∃ ad : Addr, (if c1 = q + 1 then some (⟨g, 0, none⟩ : Addr) else some ⟨g, q + 1, none⟩) = some ad ∧ (ad = ⟨g, q + 1, none⟩ ∨ (mem k).drop (q + 1) = []) := by
              by_cases h : c1 = q + 1
              · exact ⟨⟨g, 0, none⟩, by simp [h], .inr (List.drop_of_length_le (by omega))⟩
              · exact ⟨⟨g, q + 1, none⟩, by simp [h], .inl rfl⟩
            have hgw : wr.heap[g]? = w1.heap[g]? := hbq.block g hg2
            have hgl : g < wr.heap.size := by have := hbq.size; omega
            have E0 : (wr.alloc (.cells #[] 3)).ownsRow wr.heap.size 3 1 (.slice (some ⟨wr.heap.size, 0, none⟩) 0 0) 0 [] := World.ownsRow_made wr #[] 0 (Nat.le_refl _) (by unfold maxLen; omega) (by simp)
            have L1 : (((mem k).take q).map (Value.int .i64)).length = q * 1 := by simp; omega
            have N1 : ∀ j u, (((mem k).take q).map (Value.int .i64))[j]? = some u → (wr.alloc (.cells #[] 3)).cell? ((⟨g, 0, none⟩ : Addr).add j) = some u :=
              news_at o1 (w' := wr.alloc (.cells #[] 3)) ((Below.heap_alloc wr _ g hgl).trans hgw) 0 _ fun j x hx => by
                rw [Nat.zero_add]
                have hj : j < q := by have := (List.getElem?_eq_some_iff.1 hx).1; simp at this; omega
                rwa [List.getElem?_take_of_lt hj] at hx
            have L2 : (((mem k).drop (q + 1)).map (Value.int .i64)).length = ((mem k).length - (q + 1)) * 1 := by simp
            have N2 : ∀ W1 : World, (wr.alloc (.cells #[] 3)).drew.grownBy W1 (Value.slice (some ⟨wr.heap.size, 0, none⟩) 0 0).ownBlock → ∀ j u, (((mem k).drop (q + 1)).map (Value.int .i64))[j]? = some u → W1.cell? (ad.add j) = some u := by
              intro W1 hW
              rcases had2 with rfl | h0
              · refine news_at o1 (w' := W1) ?_ (q + 1) _ fun j x hx => by rwa [List.getElem?_drop] at hx
                exact (hW.block g (by simp; omega) (by simp [Value.ownBlock]; omega)).trans ((Below.heap_alloc wr _ g hgl).trans hgw)
              · rw [h0]
                intro j u hu
                simp at hu
            have HN1 := Lib.hid N1
            have HN2 := Lib.hid N2
            have h63a : 0 + q ≤ maxLen := by unfold maxLen; omega
            have hbya : (0 + q) * 8 ≤ 140737488355328 := by omega
            have h63b : q + ((mem k).length - (q + 1)) ≤ maxLen := by unfold maxLen; omega
            have hbyb : (q + ((mem k).length - (q + 1))) * 8 ≤ 140737488355328 := by omega
            have hsz0 : wr.heap.size ≤ (wr.alloc (.cells #[] 3)).drew.heap.size := by simp
            clear N1 N2 had2 hcap hgw
            go_wp2
            go_region_law (first
              | (refine step_append_own _ (by rfl) (.tmp 29) (.tmp 32) 37 (by rfl) wr.heap.size 3 j0 (.int .i64 0) 1 8 Try.underlying37 hj0 hy0 hy1 hy2 rfl (by decide) (.slice (some ⟨wr.heap.size, 0, none⟩) 0 0) 0 [] (by rfl) E0 ⟨g, 0, none⟩ q c1 (((mem k).take q).map (Value.int .i64)) (by rfl) L1 HN1.out (ints_one _) h63a hbya hsz0 ?_; intro v1 w3 hown3 hgrow3; rw [Nat.zero_add, List.nil_append] at hown3; obtain ⟨A3, c3, rfl⟩ := own_slice hown3)
              | (refine step_append_own _ (by rfl) (.tmp 33) (.tmp 37) 37 (by rfl) wr.heap.size 3 j0 (.int .i64 0) 1 8 Try.underlying37 hj0 hy0 hy1 hy2 rfl (by decide) (.slice A3 q c3) q (((mem k).take q).map (Value.int .i64)) (by rfl) hown3 ad ((mem k).length - (q + 1)) (c1 - (q + 1)) (((mem k).drop (q + 1)).map (Value.int .i64)) (by rfl) L2 (HN2.out _ hgrow3) (ints_one _) h63b hbyb (Nat.le_trans hsz0 hgrow3.size) ?_; intro v2 w4 hown4 hgrow4)
              | fail)
            obtain ⟨e, he⟩ : ∃ e, e = (mem k).eraseIdx q := ⟨_, rfl⟩
            have hown5 : w4.ownsRow wr.heap.size 3 1 v2 e.length (e.map (Value.int .i64)) := by
              have h1 : e = (mem k).take q ++ (mem k).drop (q + 1) := by rw [he, List.eraseIdx_eq_take_drop_succ]
              have h2 : e.length = q + ((mem k).length - (q + 1)) := by rw [h1]; simp; omega
              rw [h2, h1, List.map_append]
              exact hown4
            have hel : e.length ≤ 6 := by rw [he, List.length_eraseIdx]; split <;> omega
            have HE := Lib.hid he
            have hb4 : Below w1.heap.size w1 w4 := by
              have h1 : Below wr.heap.size wr (wr.alloc (.cells #[] 3)) := (Below.refl _ wr).alloc (Nat.le_refl _) _
              have h2 : Below wr.heap.size wr w3 := (h1.drew).grown hgrow3 (by simp) (fun x hx => by cases hx; exact Nat.le_refl _)
              have h3 : Below wr.heap.size wr w4 := h2.grown hgrow4 h2.size (fun x hx => (hown3.lt x hx).1)
              exact below_step hbq h3
            obtain ⟨A4, c4, rfl⟩ := own_slice hown5
            have hil4 := (IL.of_own hown5).1
            have ha4 := ha.below (below_step hbw1 hb4)
            clear he hown4 hown5 hgrow4 hgrow3 hown3 HN1 HN2 L1 L2 E0 hbq had hqw hqn
            go_wp2_with fail
            refine (l3Has_any _ _ _ _ _ _ _ ha4 hil4 hl hs (by omega)).mono ?_
            rintro e' w' ⟨rfl, rfl⟩
            have HG2 := Lib.hid (show gd F k (q + 1) = !hasL F e by rw [gd_succ, hgd.out, HE.out]; rfl)
            generalize hasL F e = hb at *
            clear hgd
            go_wp2
            go_roundw
            case rel => exact ⟨q + 1, !hb, by omega, by go_num, rfl, HG2.out, hb4⟩
            case measure => simp [intOf]; omega
          · have hqe : q = (mem k).length := by omega
            subst hqe
            have HN := Lib.hid (show minB (msks F) k = true by rw [← gd_all HV.out hlt]; exact hgd.out)
            have hownq := own_at HO1.out.1 (w' := wr) fun g hg => hbq.block g (HO1.out.1.lt g hg).2
            have hbwq := below_step hbw1 hbq
            have HRq := Lib.hid (And.intro (HO1.out.2.1.below (by omega) hbq) (show RowAt wr so w1.heap.size (mem k) (.slice A1 (mem k).length c1) from ⟨_, _, rfl, HO1.out.2.2.below hbq⟩))
            clear hgd HO1
            go_wp2_with (at_builtin; refine wpList_append_own _ rfl (.tmp 44) (.tmp 46) 23 rfl w.heap.size 37 i0 (.slice none 0 0) 1 24 Try.underlying23 hi0 hz0 hz1 hz2 rfl (by decide) _ _ _ rfl (hownq.alloc _) ⟨wr.heap.size, 0, none⟩ 1 1 [.slice A1 (mem k).length c1] rfl rfl (cell_one_new _ _ _) (slice_oneCell _ _ _) (by unfold maxLen; omega) (by omega) (by have := hbwq.size; simp; omega) ?_)
            intro v' w2 hown2 hgrow _
            have HL := Lib.hid HRq.out.1.1
            have R := Lib.hid (show w2.ownsRow w.heap.size 37 1 v' (rs ++ [Value.slice A1 (mem k).length c1]).length (rs ++ [Value.slice A1 (mem k).length c1]) ∧ Rws w2 w.heap.size w2.heap.size (mems ((List.range (k + 1)).filter (minB (msks F)))) (rs ++ [Value.slice A1 (mem k).length c1]) ∧ Below w.heap.size w w2 by
              refine ⟨by simpa using hown2, ?_, app_gen hownq (Nat.le_refl _) hbwq hgrow⟩
              rw [range_yes HN.out]
              simp only [mems, List.map_append, List.map_cons, List.map_nil]
              exact rows_app HRq.out.1 HRq.out.2 (Nat.le_refl _) hso.1 hso.2 hownq hgrow)
            have hrl2 : rs.length + 1 ≤ 64 := by
              have h1 := HL.out
              rw [mems_len] at h1
              have := range_len (minB (msks F)) k
              omega
            clear hownq hown2 hgrow HRq hbwq hbq
            go_wp2
            go_roundw
            case rel => exact ⟨k + 1, _, by omega, by go_num, by simp; omega, R.out.1, R.out.2.1, R.out.2.2⟩
            case measure => simp [intOf]; omega
    · have hk64 : k = 64 := by omega
      subst hk64
      have h1 := hrows.out
      have hrl3 : rs.length = (mems (mins (msks F))).length := h1.1
      rw [hrl3] at hown
      obtain ⟨A1, c1, rfl⟩ := own_slice hown
      have HO := Lib.hid (OSS.of_rows hown h1)
      clear hown hrows h1 hrl3
      go_wp2_with fail
      refine (l1Masks_any _).mono ?_
      rintro e w' ⟨rfl, rfl⟩
      go_wp2
      go_ret
      exact ⟨A1, c1, rfl, HO.out, hbel⟩
end Go.Proofs.Ytbkdhjmfphhhoaa

/- The reference model's FamilyMinimize, by its contract. -/
namespace Go.Proofs.Ytbkdhjmfphhhoaa
open Go.RowKit

theorem NewSS2.made {w w1 : World} (hb : Below w.heap.size w w1) : NewSS2 w [] false (.returned (.tuple #[.slice (some ⟨w1.heap.size, 0, none⟩) 0 0, .bool false])) (w1.alloc (.cells #[] 37)) := by
  have h0 : (w1.alloc (.cells #[] 37)).ownsRow w.heap.size 37 1 (.slice (some ⟨w1.heap.size, 0, none⟩) 0 0) 0 [] := World.ownsRow_made w1 #[] 0 hb.size (by unfold maxLen; omega) (by simp)
  exact ⟨_, _, rfl, OSS.of_rows h0 (Rws.nil _ _ _), hb.alloc hb.size _⟩

theorem cell_drew {w w' : World} {a : Addr} {v : Value} (h : Drew w w') (hc : w.cell? a = some v) : w'.cell? a = some v := by
  obtain ⟨n, rfl⟩ := h
  exact hc

theorem minOut_len (F : List (List Int)) : (minOut F).length ≤ 64 := by
  unfold minOut
  split
  · rw [mems_len]; exact mins_len _
  · simp
theorem minOut_wt (F : List (List Int)) : wt (minOut F) ≤ 384 := by
  unfold minOut
  split
  · exact Nat.le_trans (mems_wt _) (by have := mins_len (msks F); omega)
  · simp [wt]
theorem minOut_short (F : List (List Int)) : Short (minOut F) 1048576 := by
  unfold minOut
  split
  · exact mems_short _ _ (by omega)
  · intro l hl; cases hl
end Go.Proofs.Ytbkdhjmfphhhoaa

/- The program's sums and products of quorum systems, by their contracts. -/
namespace Go.Proofs.Ytbkdhjmfphhhoaa
open Go.RowKit

theorem fam_bits {F : List (List Int)} (h : famOk F = true) : Msk (msks F) ∧ (msks F).length ≤ 20 := ⟨msks_msk (famOk_allV h), by simp [msks]; exact famOk_len h⟩

/-- What the reading of two quorum systems hands back. -/
def Fams (w : World) (F G : List (List Int)) (e : Ending) (w' : World) : Prop :=
  Below w.heap.size w w' ∧ (((famOk F && famOk G) = false ∧ e = .returned (.tuple #[.slice none 0 0, .slice none 0 0, .bool false])) ∨
    (famOk F = true ∧ famOk G = true ∧ ∃ A c B d, e = .returned (.tuple #[.slice A (msks F).length c, .slice B (msks G).length d, .bool true]) ∧ IB w' A (msks F) ∧ IB w' B (msks G)))

set_option maxRecDepth 100000 in
set_option maxHeartbeats 800000 in
theorem familiesOf_any (A B : Option Addr) (c d : Nat) (F G : List (List Int)) (w : World) (ha : ISS w A F) (hb : ISS w B G) (hlf : F.length ≤ 1048576) (hlg : G.length ≤ 1048576) (hsf : Short F 1048576) (hsg : Short G 1048576) :
    Calls Try.prog 141 #[.slice A F.length c, .slice B G.length d] w (Fams w F G) := by
  go_enter Try.func141, Try.ntmps141
  go_wp2_with fail
  refine (familyOf_any _ _ _ _ ha hlf hsf).mono ?_
  rintro e w1 ⟨b1, ⟨hf, rfl⟩ | ⟨hf, A1, c1, rfl, o1⟩⟩
  · have HF := Lib.hid (show (famOk F && famOk G) = false by simp [hf])
    have hb' := hb.below b1
    clear hf
    go_wp2_with fail
    refine (familyOf_any _ _ _ _ hb' hlg hsg).mono ?_
    rintro e w2 ⟨b2, ⟨hg, rfl⟩ | ⟨hg, A2, c2, rfl, o2⟩⟩
    · clear hg
      go_wp2
      go_ret3
      exact ⟨below_step b1 b2, .inl ⟨HF.out, rfl⟩⟩
    · clear hg o2
      go_wp2
      go_ret3
      exact ⟨below_step b1 b2, .inl ⟨HF.out, rfl⟩⟩
  · have HF := Lib.hid hf
    have hb' := hb.below b1
    have hib := (IB.of_own o1).1
    clear hf o1
    go_wp2_with fail
    refine (familyOf_any _ _ _ _ hb' hlg hsg).mono ?_
    rintro e w2 ⟨b2, ⟨hg, rfl⟩ | ⟨hg, A2, c2, rfl, o2⟩⟩
    · have HG := Lib.hid (show (famOk F && famOk G) = false by simp [hg])
      clear hg
      go_wp2
      go_ret3
      exact ⟨below_step b1 b2, .inl ⟨HG.out, rfl⟩⟩
    · have HG := Lib.hid hg
      have HI := Lib.hid (And.intro (hib.below b2) (IB.of_own o2).1)
      clear hg o2
      go_wp2
      go_ret3
      exact ⟨below_step b1 b2, .inr ⟨HF.out, HG.out, A1, c1, A2, c2, rfl, HI.out.1, HI.out.2⟩⟩

def bothOk (F G : List (List Int)) : Bool := famOk F && famOk G
def eithM (F G : List (List Int)) : List Nat := msks F ++ msks G
def bothM (F G : List (List Int)) : List Nat := (msks F).flatMap fun a => (msks G).map fun b => a ||| b
def outM (M : List Nat) (ok : Bool) : List (List Int) := if ok = true then mems (mins M) else []
theorem take_n {K : List Nat} {k m : Nat} (h : K[k]? = some m) : K.take (k + 1) = K.take k ++ [m] := by simp [List.take_add_one, h]
theorem perm_snoc {b b' X : List Nat} {m : Nat} (h : b'.Perm (m :: b)) (h2 : b.Perm X) : b'.Perm (X ++ [m]) := h.trans ((List.Perm.cons _ h2).trans (List.perm_append_comm (l₁ := [m])))

theorem flat_take {K1 K2 : List Nat} {k m : Nat} (h : K1[k]? = some m) : ((K1.take (k + 1)).flatMap fun a => K2.map fun b => a ||| b) = ((K1.take k).flatMap fun a => K2.map fun b => a ||| b) ++ K2.map fun b => m ||| b := by
  rw [take_n h]; simp [List.flatMap_append]
theorem flat_len (K1 K2 : List Nat) : (K1.flatMap fun a => K2.map fun b => a ||| b).length = K1.length * K2.length := by
  induction K1 with
  | nil => simp
  | cons a K1 ih => simp [List.flatMap_cons, ih, Nat.succ_mul]; omega
theorem or_lt {a b : Nat} (ha : a < 64) (hb : b < 64) : a ||| b < 64 := (or_two ha hb).2

end Go.Proofs.Ytbkdhjmfphhhoaa

/- The reference model's sums and products of quorum systems, by their contracts. -/
namespace Go.Proofs.Ytbkdhjmfphhhoaa
open Go.RowKit

/-- The cells of a slice of slices. -/
theorem ISS.cells {w : World} {ad : Addr} {F : List (List Int)} (h : ISS w (some ad) F) :
    ∃ vs : List Value, vs.length = F.length ∧ (∀ j u, vs[j]? = some u → w.cell? (ad.add j) = some u) ∧ (∀ u ∈ vs, u.oneCell' = true) ∧ ∀ (j : Nat) l, F[j]? = some l → ∃ B d, vs[j]? = some (.slice B l.length d) ∧ IL w B l := by
  rcases h with rfl | ⟨b, off, e, hlt, hc⟩
  · exact ⟨[], rfl, by simp, by simp, by simp⟩
  · injection e with e
    subst e
    have : ∀ n, n ≤ F.length → ∃ vs : List Value, vs.length = n ∧ (∀ j u, vs[j]? = some u → w.cell? ((⟨b, off, none⟩ : Addr).add j) = some u) ∧ (∀ u ∈ vs, u.oneCell' = true) ∧ ∀ (j : Nat) l, j < n → F[j]? = some l → ∃ B d, vs[j]? = some (.slice B l.length d) ∧ IL w B l := by
      intro n
      induction n with
      | zero => intro _; exact ⟨[], rfl, by simp, by simp, by intro j l h; omega⟩
      | succ n ih =>
        intro hn
        obtain ⟨vs, h1, h2, h3, h4⟩ := ih (by omega)
        obtain ⟨B, d, h5, h6⟩ := hc n F[n] (List.getElem?_eq_getElem (by omega))
        refine ⟨vs ++ [.slice B F[n].length d], by simp [h1], fun j u hu => ?_, fun u hu => ?_, fun j l hj hl => ?_⟩
        · rcases Nat.lt_or_ge j vs.length with h | h
          · rw [List.getElem?_append_left h] at hu; exact h2 j u hu
          · rw [List.getElem?_append_right h] at hu
            have hj : j = n := by
              have := (List.getElem?_eq_some_iff.1 hu).1
              simp at this; omega
            subst hj
            simp [h1] at hu
            subst hu
            rw [Addr.add_lit]
            exact h5
        · rcases List.mem_append.1 hu with h | h
          · exact h3 u h
          · simp at h; subst h; rfl
        · rcases Nat.lt_or_ge j n with h | h
          · obtain ⟨B', d', h7, h8⟩ := h4 j l h hl
            exact ⟨B', d', by rw [List.getElem?_append_left (by omega)]; exact h7, h8⟩
          · have hj' : j = n := by omega
            subst hj'
            have hl' : l = F[j] := by rw [List.getElem?_eq_getElem (by omega)] at hl; exact (Option.some.inj hl).symm
            subst hl'
            exact ⟨B, d, by rw [List.getElem?_append_right (by omega)]; simp [h1], h6⟩
    obtain ⟨vs, h1, h2, h3, h4⟩ := this F.length (Nat.le_refl _)
    exact ⟨vs, h1, h2, h3, fun j l hl => h4 j l (List.getElem?_eq_some_iff.1 hl).1 hl⟩
/-- A row of slices reads as the lists that they read as. -/
theorem iss_own {w : World} {base n c : Nat} {e : TypeId} {A : Option Addr} {F : List (List Int)} {xs : List Value} (ho : w.ownsRow base e 1 (.slice A n c) n xs) (hn : n = F.length) (hx : ∀ (j : Nat) l, F[j]? = some l → ∃ B d, xs[j]? = some (.slice B l.length d) ∧ IL w B l) : ISS w A F := by
  rcases ho.2 with ⟨h0, h1⟩ | ⟨g, cap, cur, hv, hb, hg, _⟩
  · left; exact List.eq_nil_of_length_eq_zero (by omega)
  · injection hv with hA _ hcc
    subst hA
    refine .inr ⟨g, 0, rfl, (Array.getElem?_eq_some_iff.1 hg).1, fun j l hl => ?_⟩
    obtain ⟨B, d, h1, h2⟩ := hx j l hl
    refine ⟨B, d, ?_, h2⟩
    have := ho.cells (g := g) rfl j _ h1
    rw [Addr.add_lit] at this
    exact this
theorem allV_app {F G : List (List Int)} (hF : allV F) (hG : allV G) : allV (F ++ G) := fun l hl => (List.mem_append.1 hl).elim (hF l) (hG l)
theorem short_app {F G : List (List Int)} {n : Nat} (hF : Short F n) (hG : Short G n) : Short (F ++ G) n := fun l hl => (List.mem_append.1 hl).elim (hF l) (hG l)
theorem msks_app (F G : List (List Int)) : msks (F ++ G) = msks F ++ msks G := by simp [msks]

end Go.Proofs.Ytbkdhjmfphhhoaa

/- The reference model's products of quorum systems, by their contracts. -/
namespace Go.Proofs.Ytbkdhjmfphhhoaa
open Go.RowKit

/-- The unions of a set of F and a set of G. -/
def uns (F G : List (List Int)) : List (List Int) := F.flatMap fun a => G.map fun b => union a b
theorem uns_take {F G : List (List Int)} {k : Nat} {l : List Int} (h : F[k]? = some l) : uns (F.take (k + 1)) G = uns (F.take k) G ++ G.map fun b => union l b := by
  rw [take_l h]; simp [uns]
theorem uns_len (F G : List (List Int)) : (uns F G).length = F.length * G.length := by
  induction F with
  | nil => simp [uns]
  | cons a F ih => simp only [uns, List.flatMap_cons, List.length_append, List.length_map, List.length_cons, Nat.succ_mul] at ih ⊢; omega
theorem msk_union {a b : List Int} (ha : vld a = true) (hb : vld b = true) : msk (union a b) = msk a ||| msk b := by
  rw [← union_msk ha hb, msk_mem (or_lt (msk_lt ha) (msk_lt hb))]
theorem uns_msks {F G : List (List Int)} (hF : allV F) (hG : allV G) : msks (uns F G) = bothM F G := by
  unfold bothM
  induction F with
  | nil => rfl
  | cons a F ih =>
    have h1 := ih (fun l hl => hF l (by simp [hl]))
    simp only [uns, msks, List.flatMap_cons, List.map_append, List.map_cons, List.map_map] at h1 ⊢
    rw [h1]
    congr 1
    exact List.map_congr_left fun b hb => msk_union (hF a (by simp)) (hG b hb)
theorem uns_allV (F G : List (List Int)) : allV (uns F G) := by
  intro l hl
  obtain ⟨a, _, h5⟩ := List.mem_flatMap.1 hl
  obtain ⟨b, _, rfl⟩ := List.mem_map.1 h5
  exact vld_un a b
theorem uns_short (F G : List (List Int)) : Short (uns F G) 1048576 := by
  intro l hl
  obtain ⟨a, _, h5⟩ := List.mem_flatMap.1 hl
  obtain ⟨b, _, rfl⟩ := List.mem_map.1 h5
  have := union_len a b
  omega

theorem outM_len (M : List Nat) (b : Bool) : (outM M b).length ≤ 64 := by
  unfold outM
  split
  · rw [mems_len]; exact mins_len _
  · simp
theorem outM_wt (M : List Nat) (b : Bool) : wt (outM M b) ≤ 384 := by
  unfold outM
  split
  · exact Nat.le_trans (mems_wt _) (by have := mins_len M; omega)
  · simp [wt]
theorem outM_short (M : List Nat) (b : Bool) : Short (outM M b) 1048576 := by
  unfold outM
  split
  · exact mems_short _ _ (by omega)
  · intro l hl; cases hl
end Go.Proofs.Ytbkdhjmfphhhoaa

/- The minimal sets that meet every quorum, the program's, by their contract. -/
namespace Go.Proofs.Ytbkdhjmfphhhoaa
open Go.RowKit Go.Shelf
attribute [local go_sem] Oper.semAt_some

end Go.Proofs.Ytbkdhjmfphhhoaa

/- Transversals, of the reference model and of the program, by their contracts. -/
namespace Go.Proofs.Ytbkdhjmfphhhoaa
open Go.RowKit

def hitsL (F : List (List Int)) (s : List Int) : Bool := F.all fun q => !((inter q s).length == 0)
theorem hitsL_take {F : List (List Int)} {k : Nat} {l s : List Int} (h : F[k]? = some l) : hitsL (F.take (k + 1)) s = (hitsL (F.take k) s && !((inter l s).length == 0)) := by
  simp [hitsL, List.take_add_one, h]
theorem hitsL_no {F : List (List Int)} {k : Nat} {l s : List Int} (h : F[k]? = some l) (h0 : (inter l s).length = 0) : hitsL F s = false := by
  rw [hitsL, List.all_eq_false]
  exact ⟨l, List.mem_of_getElem? h, by simp [h0]⟩
theorem inter_zero {a b : List Int} (ha : vld a = true) (hb : vld b = true) : ((inter a b).length = 0) ↔ msk a &&& msk b = 0 :=
  pair_of (P := fun a b => ((inter a b).length = 0) ↔ msk a &&& msk b = 0) (by decide +kernel) ha hb
theorem hitsL_eq {F : List (List Int)} (hF : allV F) {s : Nat} (hs : s < 64) : hitsL F (mem s) = hitsQ (msks F) s := by
  unfold hitsL hitsQ msks
  rw [List.all_map]
  induction F with
  | nil => rfl
  | cons a F ih =>
    simp only [List.all_cons, Function.comp]
    rw [ih (fun l hl => hF l (by simp [hl]))]
    congr 2
    have h1 := inter_zero (hF a (by simp)) (vld_mem hs)
    rw [msk_mem hs] at h1
    rw [Bool.eq_iff_iff, beq_iff_eq, beq_iff_eq]
    exact h1

set_option maxRecDepth 100000 in
set_option maxHeartbeats 800000 in
theorem l3Hits_any (A B : Option Addr) (c d : Nat) (F : List (List Int)) (s : List Int) (w : World) (ha : ISS w A F) (hb : IL w B s) (hl : F.length ≤ 1048576) (hs : Short F 1048576) (hls : s.length ≤ 1048576) :
    Calls Try.prog 155 #[.slice A F.length c, .slice B s.length d] w fun e w' => e = .returned (.bool (hitsL F s)) ∧ Below w.heap.size w w' := by
  go_enter Try.func155, Try.ntmps155
  go_wp2
  go_loopw [5] (fun i wr => ∃ k : Nat, k ≤ F.length ∧ i = .int .i64 k ∧ Hid (hitsL (F.take k) s = true) ∧ Below w.heap.size w wr) (fun i _ => F.length - (intOf i).toNat)
  case atStart => exact ⟨0, Nat.zero_le _, rfl, (by show _ = _; simp [hitsL]), Below.refl _ _⟩
  case round =>
    obtain ⟨k, hk, rfl, hyes, hbel⟩ := hrel
    by_cases hlt : k < F.length
    · obtain ⟨b, off, l, B', d', rfl, hx, hc, hil⟩ := (ha.below hbel).at_ hlt
      have hll := hs.at_ hx
      have hbb := hb.below hbel
      have hki : (0 : Int) ≤ (k : Int) := by omega
      have hki2 : (k : Int) < (F.length : Int) := by omega
      by_cases h0 : (inter l s).length = 0
      · have H := Lib.hid (hitsL_no hx h0)
        have h0b : (((inter l s).length : Int) == 0) = true := by simp [h0]
        clear hx hyes h0
        go_wp2_with fail
        refine (l1Intersect_any _ _ _ _ _ _ _ hil hbb hll hls).mono ?_
        rintro e w1 ⟨A1, c1, rfl, o1, b1⟩
        clear o1
        have hb1 := below_step hbel b1
        go_wp2
        go_ret
        exact ⟨ret_bool H.out.symm, hb1⟩
      · have H := Lib.hid (show hitsL (F.take (k + 1)) s = true by rw [hitsL_take hx, hyes.out]; simp [h0])
        have h0b : (((inter l s).length : Int) == 0) = false := beq_eq_false_iff_ne.2 (by omega)
        clear hx hyes h0
        go_wp2_with fail
        refine (l1Intersect_any _ _ _ _ _ _ _ hil hbb hll hls).mono ?_
        rintro e w1 ⟨A1, c1, rfl, o1, b1⟩
        clear o1
        have hb1 := below_step hbel b1
        go_wp2
        go_roundw
        case rel => exact ⟨k + 1, by omega, by go_num, H.out, hb1⟩
        case measure => simp [intOf]; omega
    · have hkl : k = F.length := by omega
      subst hkl
      have H := Lib.hid (show hitsL F s = true by have := hyes.out; rwa [List.take_length] at this)
      clear hyes
      go_wp2
      go_ret
      exact ⟨ret_bool H.out.symm, hbel⟩

def transOk (F : List (List Int)) : Bool := famOk F && decide (0 < F.length)
def transM (F : List (List Int)) : List Nat := trs (msks F)
/-- The sets of masks that have come, of which p is true. -/
theorem mems_range_yes {p : Nat → Bool} {k : Nat} (h : p k = true) : mems ((List.range (k + 1)).filter p) = mems ((List.range k).filter p) ++ [mem k] := by rw [range_yes h]; simp [mems]
theorem mems_range_no {p : Nat → Bool} {k : Nat} (h : p k = false) : mems ((List.range (k + 1)).filter p) = mems ((List.range k).filter p) := by rw [range_no h]
theorem msks_filter (p : Nat → Bool) : msks (mems ((List.range 64).filter p)) = (List.range 64).filter p := msks_mems fun _ hq => List.mem_range.1 (List.mem_filter.1 hq).1
theorem filter_allV (p : Nat → Bool) : allV (mems ((List.range 64).filter p)) := mems_allV fun _ hq => List.mem_range.1 (List.mem_filter.1 hq).1

set_option maxRecDepth 100000 in
set_option maxHeartbeats 1600000 in
theorem specTrans_any (A : Option Addr) (c : Nat) (F : List (List Int)) (w : World) (ha : ISS w A F) (hl : F.length ≤ 1048576) (hs : Short F 1048576) :
    Calls Try.prog 135 #[.slice A F.length c] w (NewSS2 w (outM (transM F) (transOk F)) (transOk F)) := by
  obtain ⟨i0, hi0, hz0, hz1, hz2⟩ := info_parts slice_info
  cases hf : famOk F
  · have HF := Lib.hid hf
    have HB := Lib.hid (show transOk F = false by simp [transOk, hf])
    clear hf
    go_enter Try.func135, Try.ntmps135
    go_wp2_with fail
    refine (specFam_any _ _ _ _ ha hl hs).mono ?_
    rintro e w1 ⟨he, hd1⟩
    rw [HF.out] at he
    subst he
    go_wp2
    go_ret2
    rw [HB.out, outM]
    exact NewSS2.made hd1.below
  · by_cases h0 : F.length = 0
    · have HF := Lib.hid hf
      have HB := Lib.hid (show transOk F = false by simp [transOk, h0])
      have h0b : ((F.length : Int) == 0) = true := by simp [h0]
      clear hf h0
      go_enter Try.func135, Try.ntmps135
      go_wp2_with fail
      refine (specFam_any _ _ _ _ ha hl hs).mono ?_
      rintro e w1 ⟨he, hd1⟩
      rw [HF.out] at he
      subst he
      go_wp2
      go_ret2
      rw [HB.out, outM]
      exact NewSS2.made hd1.below
    · have HF := Lib.hid hf
      have HB := Lib.hid (show transOk F = true by simp [transOk, hf]; omega)
      have h0b : ((F.length : Int) == 0) = false := beq_eq_false_iff_ne.2 (by omega)
      have HP := Lib.hid (fun k (hk : k < 64) => hitsL_eq (famOk_allV hf) hk)
      clear hf h0
      obtain ⟨p, hp⟩ : ∃ p, p = hitsQ (msks F) := ⟨_, rfl⟩
      have HT := Lib.hid (show (List.range 64).filter p = transM F by rw [hp]; rfl)
      rw [← hp] at HP
      have HPP := Lib.hid hp
      clear hp
      go_enter Try.func135, Try.ntmps135
      go_wp2_with fail
      refine (specFam_any _ _ _ _ ha hl hs).mono ?_
      rintro e w1 ⟨he, hd1⟩
      rw [HF.out] at he
      subst he
      have hb1 := hd1.below
      clear hd1
      have h00 : (w1.alloc (.cells #[] 37)).ownsRow w.heap.size 37 1 (.slice (some ⟨w1.heap.size, 0, none⟩) 0 0) 0 [] := World.ownsRow_made w1 #[] 0 hb1.size (by unfold maxLen; omega) (by simp)
      have H00 := Lib.hid (And.intro h00 (hb1.alloc hb1.size (.cells #[] 37)))
      clear h00 hb1
      go_wp2
      go_loopw [4, 5] (fun v i wr => ∃ (k : Nat) (rs : List Value) (A5 : Option Addr) (c5 : Nat), k ≤ 64 ∧ i = .int .i64 k ∧ v = .slice A5 rs.length c5 ∧ rs.length ≤ k ∧ wr.ownsRow w.heap.size 37 1 (.slice A5 rs.length c5) rs.length rs ∧ Hid (Rws wr w.heap.size wr.heap.size (mems ((List.range k).filter p)) rs) ∧ Below w.heap.size w wr) (fun _ i _ => 64 - (intOf i).toNat)
      case atStart => exact ⟨0, [], _, _, by omega, rfl, rfl, by simp, H00.out.1, Rws.nil _ _ _, H00.out.2⟩
      case round =>
        clear H00
        obtain ⟨k, rs, A5, c5, hk, rfl, rfl, hrl, hown, hrows, hbel⟩ := hrel
        by_cases hlt : k < 64
        · go_wp2_with fail
          refine (l1Masks_any _).mono ?_
          rintro e w' ⟨rfl, rfl⟩
          go_wp2_with fail
          refine (l1OfMask_any k _ hlt).mono ?_
          rintro e w2 ⟨A2, c2, rfl, o2, b2⟩
          have hil2 := (IL.of_own o2).1
          have hml := mem_len k
          have hb2 := below_step hbel b2
          clear o2
          go_wp2_with fail
          refine (l3Hits_any _ _ _ _ _ _ _ (ha.below hb2) hil2 hl hs (by omega)).mono ?_
          rintro e w3 ⟨he, b3⟩
          have b23 := below_step b2 b3
          have hown3 := own_at hown (w' := w3) fun g hg => b23.block g (hown.lt g hg).2
          have HR3 := Lib.hid (hrows.out.below (Nat.le_refl _) b23)
          have hb3 := below_step hbel b23
          have hq : w.heap.size ≤ wr.heap.size ∧ wr.heap.size ≤ w3.heap.size := ⟨hbel.size, b23.size⟩
          clear hown hrows hb2 b2 b3 hil2
          have HE := HP.out k hlt
          cases hpk : p k
          · rw [HE, hpk] at he
            subst he
            have R := Lib.hid (show w3.ownsRow w.heap.size 37 1 (.slice A5 rs.length c5) rs.length rs ∧ Rws w3 w.heap.size w3.heap.size (mems ((List.range (k + 1)).filter p)) rs ∧ Below w.heap.size w w3 by
              refine ⟨hown3, ?_, hb3⟩
              rw [mems_range_no hpk]
              exact Rws.hi_le HR3.out hq.2 (Nat.le_refl _))
            clear hown3 HR3 hb3 b23 hbel hpk HE
            go_wp2
            go_roundw
            case rel => exact ⟨k + 1, rs, A5, c5, by omega, by go_num, rfl, by omega, R.out.1, R.out.2.1, R.out.2.2⟩
            case measure => simp [intOf]; omega
          · rw [HE, hpk] at he
            subst he
            have HPK := Lib.hid hpk
            clear hpk HE hbel b23
            have HR3' := Lib.hid (Rws.hi_le HR3.out hq.2 (Nat.le_refl _))
            clear HR3
            go_wp2_with fail
            refine (l1OfMask_any k _ hlt).mono ?_
            rintro e w4 ⟨A4, c4, rfl, o4, b4⟩
            have hown4 := own_at hown3 (w' := w4) fun g hg => b4.block g (hown3.lt g hg).2
            have hb4 := below_step hb3 b4
            have HR4 := Lib.hid (And.intro (HR3'.out.below (Nat.le_refl _) b4) (show RowAt w4 w3.heap.size w4.heap.size (mem k) (.slice A4 (mem k).length c4) from ⟨_, _, rfl, Own.of_new o4⟩))
            have hq4 : w.heap.size ≤ w3.heap.size ∧ w3.heap.size ≤ w4.heap.size := ⟨by omega, b4.size⟩
            clear hown3 HR3' hb3 b4 o4
            go_wp2_with (at_builtin; refine wpList_append_own _ rfl (.tmp 25) (.tmp 28) 23 rfl w.heap.size 37 i0 (.slice none 0 0) 1 24 Try.underlying23 hi0 hz0 hz1 hz2 rfl (by decide) _ _ _ rfl (hown4.alloc _) ⟨w4.heap.size, 0, none⟩ 1 1 [.slice A4 (mem k).length c4] rfl rfl (cell_one_new _ _ _) (slice_oneCell _ _ _) (by unfold maxLen; omega) (by omega) (by simp; omega) ?_)
            intro v5 w5 hown5 hgrow5 _
            have R := Lib.hid (show ∃ rs' A6 c6, v5 = Value.slice A6 (List.length rs') c6 ∧ rs'.length = rs.length + 1 ∧ w5.ownsRow w.heap.size 37 1 (.slice A6 (List.length rs') c6) (List.length rs') rs' ∧ Rws w5 w.heap.size w5.heap.size (mems ((List.range (k + 1)).filter p)) rs' ∧ Below w.heap.size w w5 by
              have h3 : w5.ownsRow w.heap.size 37 1 v5 (rs ++ [Value.slice A4 (mem k).length c4]).length (rs ++ [Value.slice A4 (mem k).length c4]) := by simpa using hown5
              obtain ⟨A6, c6, h4⟩ := own_slice h3
              refine ⟨_, A6, c6, h4, by simp, by rw [← h4]; exact h3, ?_, app_gen hown4 (Nat.le_refl _) hb4 hgrow5⟩
              rw [mems_range_yes HPK.out]
              exact rows_app HR4.out.1 HR4.out.2 (Nat.le_refl _) hq4.1 hq4.2 hown4 hgrow5)
            obtain ⟨rs', A6, c6, rfl, hrl', R2⟩ := R.out
            have HR2 := Lib.hid R2
            clear R R2 hown5 hgrow5 hown4 HR4 hb4
            go_wp2
            go_roundw
            case rel => exact ⟨k + 1, rs', A6, c6, by omega, by go_num, rfl, by omega, HR2.out.1, HR2.out.2.1, HR2.out.2.2⟩
            case measure => simp [intOf]; omega
        · have hkl : k = 64 := by omega
          subst hkl
          have h1 := hrows.out
          have hrl2 : rs.length = (mems ((List.range 64).filter p)).length := h1.1
          have hiss : ISS wr A5 (mems ((List.range 64).filter p)) := by
            rw [hrl2] at hown
            exact h1.iss hown fun _ _ h => h
          rw [hrl2]
          have HV := Lib.hid (filter_allV p)
          have HM := Lib.hid (msks_filter p)
          have hsh := mems_short ((List.range 64).filter p) 1048576 (by omega)
          have hlen : (mems ((List.range 64).filter p)).length ≤ 1048576 := by omega
          clear hown hrows h1 hrl2
          generalize mems ((List.range 64).filter p) = U at *
          go_wp2_with fail
          refine (l1Masks_any _).mono ?_
          rintro e w' ⟨rfl, rfl⟩
          go_wp2_with fail
          refine (l3Min_any _ _ _ _ hiss hlen hsh HV.out).mono ?_
          rintro e w5 ⟨A7, c7, rfl, o7, b7⟩
          have HR := Lib.hid (show NewSS2 w (outM (transM F) (transOk F)) (transOk F) (.returned (.tuple #[.slice A7 (mems (mins (msks U))).length c7, .bool true])) w5 by
            rw [HM.out, HT.out] at *
            rw [HB.out, outM]
            exact ⟨A7, c7, rfl, o7.base hbel.size, below_step hbel b7⟩)
          clear o7 b7
          go_wp2
          go_ret2
          exact HR.out

end Go.Proofs.Ytbkdhjmfphhhoaa

/- The walk of the law on FamilyMinimize. -/
namespace Go.Proofs.Ytbkdhjmfphhhoaa
open Go.RowKit

end Go.Proofs.Ytbkdhjmfphhhoaa
