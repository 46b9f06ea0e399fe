/- Drawn lists of sets by their contracts. -/
import Derived.Test.YtnfaihgnggmpkaaGf
import Derived.Test.YtnfaihgnggmpkaaGd
import Derived.Test.YtnfaihgnggmpkaaGa
namespace Go.Proofs.Ytnfaihgnggmpkaa
open Go.RowKit

theorem Keep.one {w w' : World} {g : Nat} (h : w.grownBy w' (some g)) : Keep g (g + 1) w w' := Keep.of_grown h (fun k e => by injection e with e; omega)
theorem OSS.far {w w' : World} {lo hi c g : Nat} {A : Option Addr} {F : List (List Int)} (h : OSS w lo hi A c F) (hg : w.grownBy w' (some g)) (hlt : g < lo) : OSS w' lo hi A c F := h.keep (Keep.one hg) (.inr (by omega))
/-- A row is appended to rows of the call's own. -/
theorem oss_app {w3 w4 : World} {lo hi lo2 hi2 : Nat} {F : List (List Int)} {rs : List Value} {l : List Int} {x v v' : Value} {o : Obj} (hrows : Rws w3 lo hi F rs) (hx : RowAt w3 lo2 hi2 l x) (h1 : hi ≤ lo2) (h2 : lo ≤ lo2) (h3 : lo2 ≤ hi2)
    (hown : w3.ownsRow lo 47 1 v F.length rs) (ho : w4.ownsRow lo 47 1 v' (F.length + 1) (rs ++ [x])) (hg : (w3.alloc o).grownBy w4 v.ownBlock) :
    ∃ A c, v' = .slice A (F ++ [l]).length c ∧ OSS w4 lo w4.heap.size A c (F ++ [l]) := by
  have h4 : w4.ownsRow lo 47 1 v' (F ++ [l]).length (rs ++ [x]) := by simpa using ho
  obtain ⟨A, c, rfl⟩ := own_slice h4
  exact ⟨A, c, rfl, OSS.of_rows h4 (rows_app hrows hx h1 h2 h3 hown hg)⟩
theorem grown_app {w w3 w4 : World} {g n : Nat} {e : TypeId} {v : Value} {xs : List Value} {o : Obj} (h : w.grownBy w3 (some g)) (hown : w3.ownsRow w.heap.size e 1 v n xs) (hg : (w3.alloc o).grownBy w4 v.ownBlock) : w.grownBy w4 (some g) :=
  grown_new (grown_allocD h o) hg fun i hi => (hown.lt i hi).1
theorem rd_app {w w3 w4 : World} {g q n : Nat} {e : TypeId} {v : Value} {xs : List Value} {o : Obj} (hr : RdX w3 g q) (hlt : g < w.heap.size) (hown : w3.ownsRow w.heap.size e 1 v n xs) (hg : (w3.alloc o).grownBy w4 v.ownBlock) : RdX w4 g q :=
  (new_rd hr o).grown hg fun k hk => Nat.lt_of_lt_of_le hlt (hown.lt k hk).1
theorem short_snoc {F : List (List Int)} {l : List Int} {n : Nat} (h : Short F n) (hl : l.length ≤ n) : Short (F ++ [l]) n := short_app h (fun x hx => by simp at hx; subst hx; exact hl)
theorem allV_snoc {F : List (List Int)} {l : List Int} (h : allV F) (hl : vld l = true) : allV (F ++ [l]) := allV_app h (fun x hx => by simp at hx; subst hx; exact hl)
/-- A drawn list of sets. -/
def DrawnF (w : World) (g p : Nat) (e : Ending) (w' : World) : Prop :=
  ∃ (F : List (List Int)) (A : Option Addr) (c q : Nat), F.length ≤ 65 ∧ Short F 7 ∧ e = .returned (.slice A F.length c) ∧ OSS w' w.heap.size w'.heap.size A c F ∧ RdX w' g q ∧ q ≤ p + 60 ∧ w.grownBy w' (some g)
theorem OSS.hi {w : World} {lo hi hi2 c : Nat} {A : Option Addr} {F : List (List Int)} (h : OSS w lo hi A c F) (h1 : hi ≤ hi2) (h2 : hi2 ≤ w.heap.size) : OSS w lo hi2 A c F := by
  obtain ⟨rs, ho, hh, hb, hr⟩ := h
  exact ⟨rs, ho, h2, fun g hg => ⟨(hb g hg).1, Nat.lt_of_lt_of_le (hb g hg).2 h1⟩, hr.hi_le h1 h2⟩
theorem row_new {w : World} {cs : List Int} (hc : cs.length ≤ 7) : RowAt (w.alloc (.cells (cs.map (Value.int .i64)).toArray 3)) w.heap.size (w.heap.size + 1) cs (.slice (some ⟨w.heap.size, 0, none⟩) cs.length cs.length) := by
  have ho := World.ownsRow_lit (base := w.heap.size) (e := 3) (size := 1) w (cs.map (Value.int .i64)).toArray cs.length (Nat.le_refl _) (by unfold maxLen; omega) (by simp)
  refine ⟨_, _, rfl, by simpa using ho, by simp, fun g hg => ?_⟩
  cases hg
  exact ⟨Nat.le_refl _, Nat.lt_succ_self _⟩
theorem outM_len65 (M : List Nat) (b : Bool) : (outM M b).length ≤ 65 := Nat.le_trans (outM_len M b) (by omega)
theorem outM_short7 (M : List Nat) (b : Bool) : Short (outM M b) 7 := by
  unfold outM
  split
  · exact mems_short _ _ (by omega)
  · intro l hl; cases hl

/-- What the draws of quorum systems hand back. -/
def DrewF (w : World) (e : Ending) (w' : World) : Prop :=
  ∃ (F : List (List Int)) (A : Option Addr) (c : Nat), F.length ≤ 65 ∧ Short F 7 ∧ e = .returned (.slice A F.length c) ∧ ISS w' A F ∧ Below w.heap.size w w'
def DrewFS (w : World) (e : Ending) (w' : World) : Prop :=
  ∃ (F : List (List Int)) (s : List Int) (A B : Option Addr) (c d : Nat), F.length ≤ 65 ∧ Short F 7 ∧ s.length ≤ 7 ∧ e = .returned (.tuple #[.slice A F.length c, .slice B s.length d]) ∧ ISS w' A F ∧ IL w' B s ∧ Below w.heap.size w w'

/-- What the draw of a few sets hands back. -/
def DrewM (w : World) (e : Ending) (w' : World) : Prop :=
  ∃ (F : List (List Int)) (A : Option Addr) (c : Nat), F.length ≤ 5 ∧ Short F 7 ∧ e = .returned (.slice A F.length c) ∧ ISS w' A F ∧ Below w.heap.size w w'

end Go.Proofs.Ytnfaihgnggmpkaa
