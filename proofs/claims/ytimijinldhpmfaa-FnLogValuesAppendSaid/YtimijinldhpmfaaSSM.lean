/- Copies and marks of slices of slices, by their contracts. -/
import Derived.Test.YtimijinldhpmfaaSS
namespace Go.Proofs.Ytimijinldhpmfaa
open Go.RowKit

theorem slice_info : (Try.prog.info? 35).map (fun i => (i.zero, i.size, i.bytes)) = some (some (.slice none 0 0), 1, 24) := by kernel_rfl
theorem ne_types : (35 : TypeId) ≠ 3 := by decide

/-- The rows that have been laid, nil behind. -/
def fillv (rs : List Value) (n : Nat) : List Value := rs ++ List.replicate (n - rs.length) (.slice none 0 0)
theorem fillv_set {rs : List Value} {n k : Nat} (v : Value) (hk : rs.length = k) (h : k < n) : (fillv rs n).set k v = fillv (rs ++ [v]) n := by
  subst hk
  unfold fillv
  rw [show n - rs.length = (n - (rs ++ [v]).length) + 1 by simp; omega, List.replicate_succ, List.set_append_right _ _ (by omega)]
  simp
theorem fillv_all {rs : List Value} {n : Nat} (h : rs.length = n) : fillv rs n = rs := by simp [fillv, h]
theorem fillv_none (n : Nat) : (madeCells #[Value.slice none 0 0] n).toList = fillv [] n := by
  simp [fillv, madeCells]
  apply List.ext_getElem
  · simp
  · intro i h1 h2; simp [Nat.mod_one]
/-- A store into a row of another type leaves the rows alone. -/
theorem Rws.store {w : World} {lo hi b : Nat} {T : TypeId} {cur : Array Value} {F : List (List Int)} {rs : List Value} (h : Rws w lo hi F rs) (hb : w.heap[b]? = some (.cells cur T (0, 0))) (hT : T ≠ 3) (hh : hi ≤ w.heap.size) (j : Nat) (v : Value) : Rws (w.setCell ⟨b, j, none⟩ v) lo hi F rs := by
  refine h.at_ (by simpa [World.setCell] using hh) fun g _ _ ⟨cur', hc⟩ => Below.heap_setCell w ⟨b, j, none⟩ v g ?_
  rintro rfl
  rw [hb] at hc
  injection hc with hc
  injection hc with _ hc
  exact hT hc
theorem RowAt.store {w : World} {lo hi b : Nat} {T : TypeId} {cur : Array Value} {l : List Int} {u : Value} (h : RowAt w lo hi l u) (hb : w.heap[b]? = some (.cells cur T (0, 0))) (hT : T ≠ 3) (j : Nat) (v : Value) : RowAt (w.setCell ⟨b, j, none⟩ v) lo hi l u := by
  have hh : hi ≤ w.heap.size := by obtain ⟨_, _, _, ho⟩ := h; exact ho.2.1
  have R : Rws w lo hi [l] [u] := ⟨rfl, fun k l' u' h1 h2 => by
    cases k with
    | zero => simp at h1 h2; subst h1 h2; exact h
    | succ k => simp at h1, by simp [Asc]⟩
  exact (R.store hb hT hh j v).2.1 0 l u rfl rfl
theorem own_cells {w : World} {base n : Nat} {e : TypeId} {v : Value} {xs : List Value} (h : w.ownsRow base e 1 v n xs) : ∀ g, v.ownBlock = some g → ∃ cur, w.heap[g]? = some (.cells cur e (0, 0)) := by
  intro g hg
  rcases h.2 with ⟨h0, _⟩ | ⟨g', cap, cur, hv, _, h5, _⟩
  · rw [h0] at hg; cases hg
  · rw [hv] at hg; cases hg; exact ⟨cur, h5⟩
theorem Rws.hi_le {w : World} {lo hi : Nat} {F : List (List Int)} {rs : List Value} (h : Rws w lo hi F rs) {hi2 : Nat} (h2 : hi ≤ hi2) (h3 : hi2 ≤ w.heap.size) : Rws w lo hi2 F rs := by
  refine ⟨h.1, fun j l v hl hv => ?_, h.2.2⟩
  obtain ⟨A, c, rfl, ho⟩ := h.2.1 j l v hl hv
  exact ⟨A, c, rfl, ho.mono (Nat.le_refl _) h2 h3⟩
theorem Rws.below {w w' : World} {lo hi : Nat} {F : List (List Int)} {rs : List Value} (h : Rws w lo hi F rs) (hh : hi ≤ w.heap.size) (hb : Below w.heap.size w w') : Rws w' lo hi F rs :=
  h.at_ (Nat.le_trans hh hb.size) fun g _ h2 _ => hb.block g (by omega)

/-- A round of the copy, as facts on memory. -/
theorem copy_step {w wr w1 : World} {g' : Nat} {F : List (List Int)} {rs : List Value} {k : Nat} {l : List Int} (hl : F[k]? = some l)
    (hown : wr.ownsRow w.heap.size 35 1 (.slice (some ⟨w.heap.size, 0, none⟩) F.length F.length) F.length (fillv rs F.length))
    (hrows : Rws wr w.heap.size wr.heap.size (F.take k) rs) (hbel : Below w.heap.size w wr)
    (ho : w1.ownsRow wr.heap.size 3 1 (.slice (some ⟨g', 0, none⟩) l.length l.length) l.length (l.map (Value.int .i64))) (hb1 : Below wr.heap.size wr w1) :
    (∃ u, w1.cell? ⟨w.heap.size, k, none⟩ = some u) ∧ w1.frozen? ⟨w.heap.size, k, none⟩ = false ∧
    (∀ W, W = w1.setCell ⟨w.heap.size, k, none⟩ (.slice (some ⟨g', 0, none⟩) l.length l.length) →
      W.ownsRow w.heap.size 35 1 (.slice (some ⟨w.heap.size, 0, none⟩) F.length F.length) F.length (fillv (rs ++ [.slice (some ⟨g', 0, none⟩) l.length l.length]) F.length) ∧
      Rws W w.heap.size W.heap.size (F.take (k + 1)) (rs ++ [.slice (some ⟨g', 0, none⟩) l.length l.length]) ∧ Below w.heap.size w W) := by
  have hk : k < F.length := (List.getElem?_eq_some_iff.1 hl).1
  have hown1 := hown.kept (row := none) (w' := w1) ⟨hb1.os, hb1.tape, hb1.output, hb1.size, fun i hi _ => hb1.block i hi⟩ (by right; simp [Value.ownBlock])
  obtain ⟨cur, hcur⟩ := own_cells hown1 w.heap.size rfl
  have hrl : rs.length = k := by rw [hrows.1]; simp; omega
  refine ⟨⟨_, (hown1.cellAt k (by omega)).trans (List.getElem?_eq_getElem (by have := hown1.1; omega))⟩, hown1.frozenAt k, ?_⟩
  rintro W rfl
  have hr1 := (hrows.below (Nat.le_refl _) hb1).store hcur ne_types hb1.size k (.slice (some ⟨g', 0, none⟩) l.length l.length)
  have hro : RowAt w1 wr.heap.size w1.heap.size l (.slice (some ⟨g', 0, none⟩) l.length l.length) := ⟨_, _, rfl, Own.of_new ho⟩
  have hro1 := hro.store hcur ne_types k (.slice (some ⟨g', 0, none⟩) l.length l.length)
  have hsz : (w1.setCell ⟨w.heap.size, k, none⟩ (.slice (some ⟨g', 0, none⟩) l.length l.length)).heap.size = w1.heap.size := by simp [World.setCell]
  refine ⟨?_, ?_, (below_step hbel hb1).setCell (Nat.le_refl _) _⟩
  · rw [← fillv_set _ hrl hk]
    exact (hown1.stored k _).1
  · rw [show F.take (k + 1) = F.take k ++ [l] by simp [List.take_add_one, hl], hsz]
    exact hr1.snoc hro1 (Nat.le_refl _) hbel.size hb1.size

/-- The marks of the rows, one behind the other. -/
def markSS : Nat → List (List Int) → List (List Int)
  | _, [] => []
  | k, l :: F => marks k l.length :: markSS (k + l.length) F
/-- Rws of which the first j bear their marks. -/
def mkTo (F : List (List Int)) (k j : Nat) : List (List Int) := markSS k (F.take j) ++ F.drop j
theorem markSS_len (F : List (List Int)) : ∀ k, (markSS k F).length = F.length := by
  induction F with
  | nil => intro k; rfl
  | cons l F ih => intro k; simp [markSS, ih]
theorem markSS_snoc (F : List (List Int)) (l : List Int) : ∀ k, markSS k (F ++ [l]) = markSS k F ++ [marks (k + wt F) l.length] := by
  induction F with
  | nil => intro k; simp [markSS, wt]
  | cons a F ih =>
    intro k
    simp only [List.cons_append, markSS, ih]
    congr 3
    simp [wt, Nat.add_assoc]
theorem markSS_at {F : List (List Int)} {j : Nat} {l : List Int} (h : F[j]? = some l) : ∀ k, (markSS k F)[j]? = some (marks (k + wt (F.take j)) l.length) := by
  induction F generalizing j with
  | nil => simp at h
  | cons a F ih =>
    intro k
    cases j with
    | zero => simp at h; subst h; simp [markSS, wt]
    | succ j =>
      simp at h
      simp only [markSS, List.getElem?_cons_succ, ih h, List.take_succ_cons]
      congr 2
      simp [wt, Nat.add_assoc]
theorem mkTo_zero (F : List (List Int)) (k : Nat) : mkTo F k 0 = F := by simp [mkTo, markSS]
theorem mkTo_all (F : List (List Int)) (k : Nat) : mkTo F k F.length = markSS k F := by simp [mkTo]
theorem mkTo_len (F : List (List Int)) (k j : Nat) : (mkTo F k j).length = F.length := by simp [mkTo, markSS_len]; omega
theorem mkTo_at {F : List (List Int)} {k j : Nat} {l : List Int} (h : F[j]? = some l) : (mkTo F k j)[j]? = some l := by
  have hj : j < F.length := (List.getElem?_eq_some_iff.1 h).1
  unfold mkTo
  rw [List.getElem?_append_right (by rw [markSS_len]; simp; omega), markSS_len]
  simp [Nat.min_eq_left (Nat.le_of_lt hj), h]
theorem mkTo_set {F : List (List Int)} {k j : Nat} {l : List Int} (h : F[j]? = some l) : mkTo F k (j + 1) = (mkTo F k j).set j (marks (k + wt (F.take j)) l.length) := by
  have hj : j < F.length := (List.getElem?_eq_some_iff.1 h).1
  unfold mkTo
  rw [show F.take (j + 1) = F.take j ++ [l] by simp [List.take_add_one, h], markSS_snoc, List.set_append_right _ _ (by rw [markSS_len]; simp; omega), markSS_len]
  simp only [List.length_take, Nat.min_eq_left (Nat.le_of_lt hj), Nat.sub_self]
  have : F.drop j = l :: F.drop (j + 1) := by
    rw [List.drop_eq_getElem_cons hj]; congr 1; exact Option.some.inj ((List.getElem?_eq_getElem hj).symm.trans h)
  rw [this]
  simp

theorem asc_ne {rs : List Value} (h : Asc rs) {i j : Nat} (hij : i ≠ j) {u v : Value} (hu : rs[i]? = some u) (hv : rs[j]? = some v) {g : Nat} (hg : u.ownBlock = some g) (hg' : v.ownBlock = some g) : False := by
  obtain ⟨hi, rfl⟩ := List.getElem?_eq_some_iff.1 hu
  obtain ⟨hj, rfl⟩ := List.getElem?_eq_some_iff.1 hv
  rcases Nat.lt_or_gt_of_ne hij with h1 | h1
  · exact Nat.lt_irrefl g (List.pairwise_iff_getElem.1 h i j hi hj h1 g g hg hg')
  · exact Nat.lt_irrefl g (List.pairwise_iff_getElem.1 h j i hj hi h1 g g hg' hg)

/-- One row is written over: the others stand. -/
theorem OSS.mark {w w' : World} {lo hi c : Nat} {A : Option Addr} {F : List (List Int)} {rs : List Value} {j : Nat} {l m : List Int} {B : Option Addr} {d : Nat}
    (ho : w.ownsRow lo 35 1 (.slice A F.length c) F.length rs) (hh : hi ≤ w.heap.size) (hr : Rws w lo hi F rs) (hl : F[j]? = some l) (hv : rs[j]? = some (.slice B l.length d)) (hm : m.length = l.length)
    (hw : w'.ownsRow lo 3 1 (.slice B l.length d) l.length (m.map (Value.int .i64))) (hg : w.grownBy w' (Value.slice B l.length d).ownBlock) :
    w'.ownsRow lo 35 1 (.slice A F.length c) F.length rs ∧ Rws w' lo hi (F.set j m) rs := by
  have hj : j < F.length := (List.getElem?_eq_some_iff.1 hl).1
  obtain ⟨B', d', e', hown⟩ := hr.2.1 j l _ hl hv
  injection e' with e1 _ e2
  subst e1 e2
  constructor
  · refine own_at ho fun g hg' => hg.block g (ho.lt g hg').2 fun e => ?_
    obtain ⟨cur, h1⟩ := own_cells ho g hg'
    obtain ⟨cur2, h2⟩ := own_cells hown.1 g e.symm
    rw [h1] at h2
    injection h2 with h2
    injection h2 with _ h2
    exact ne_types h2
  · refine ⟨by rw [List.length_set]; exact hr.1, fun i l' v hl' hv' => ?_, hr.2.2⟩
    by_cases hij : i = j
    · subst hij
      rw [List.getElem?_set_self hj] at hl'
      obtain rfl := Option.some.inj hl'
      rw [hv] at hv'
      obtain rfl := Option.some.inj hv'
      exact ⟨B, d, by rw [hm], by rw [hm]; exact hw, Nat.le_trans hh hg.size, fun g hg' => hown.2.2 g (by rw [hm] at hg'; exact hg')⟩
    · rw [List.getElem?_set_ne (fun e => hij e.symm)] at hl'
      obtain ⟨A', c', rfl, ho'⟩ := hr.2.1 i l' v hl' hv'
      refine ⟨A', c', rfl, ho'.at_ (Nat.le_trans hh hg.size) fun g h1 h2 h3 => hg.block g (by omega) fun e => ?_⟩
      exact asc_ne hr.2.2 hij hv' hv h3 e.symm

end Go.Proofs.Ytimijinldhpmfaa
