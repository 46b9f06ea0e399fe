/- The reference model's products of quorum systems, by their contracts. -/
import Derived.Test.YtgbijndfpbcjeaaEithS
namespace Go.Proofs.Ytgbijndfpbcjeaa
open Go.RowKit

/-- The unions of a set of F and a set of G. -/
def uns (F G : List (List Int)) : List (List Int) := F.flatMap fun a => G.map fun b => union a b
theorem uns_take {F G : List (List Int)} {k : Nat} {l : List Int} (h : F[k]? = some l) : uns (F.take (k + 1)) G = uns (F.take k) G ++ G.map fun b => union l b := by
  rw [take_l h]; simp [uns]
theorem uns_len (F G : List (List Int)) : (uns F G).length = F.length * G.length := by
  induction F with
  | nil => simp [uns]
  | cons a F ih => simp only [uns, List.flatMap_cons, List.length_append, List.length_map, List.length_cons, Nat.succ_mul] at ih ⊢; omega
theorem msk_union {a b : List Int} (ha : vld a = true) (hb : vld b = true) : msk (union a b) = msk a ||| msk b := by
  rw [← union_msk ha hb, msk_mem (or_lt (msk_lt ha) (msk_lt hb))]
theorem uns_msks {F G : List (List Int)} (hF : allV F) (hG : allV G) : msks (uns F G) = bothM F G := by
  unfold bothM
  induction F with
  | nil => rfl
  | cons a F ih =>
    have h1 := ih (fun l hl => hF l (by simp [hl]))
    simp only [uns, msks, List.flatMap_cons, List.map_append, List.map_cons, List.map_map] at h1 ⊢
    rw [h1]
    congr 1
    exact List.map_congr_left fun b hb => msk_union (hF a (by simp)) (hG b hb)
theorem uns_allV (F G : List (List Int)) : allV (uns F G) := by
  intro l hl
  obtain ⟨a, _, h5⟩ := List.mem_flatMap.1 hl
  obtain ⟨b, _, rfl⟩ := List.mem_map.1 h5
  exact vld_un a b
theorem uns_short (F G : List (List Int)) : Short (uns F G) 1048576 := by
  intro l hl
  obtain ⟨a, _, h5⟩ := List.mem_flatMap.1 hl
  obtain ⟨b, _, rfl⟩ := List.mem_map.1 h5
  have := union_len a b
  omega

theorem outM_len (M : List Nat) (b : Bool) : (outM M b).length ≤ 64 := by
  unfold outM
  split
  · rw [mems_len]; exact mins_len _
  · simp
theorem outM_wt (M : List Nat) (b : Bool) : wt (outM M b) ≤ 384 := by
  unfold outM
  split
  · exact Nat.le_trans (mems_wt _) (by have := mins_len M; omega)
  · simp [wt]
theorem outM_short (M : List Nat) (b : Bool) : Short (outM M b) 1048576 := by
  unfold outM
  split
  · exact mems_short _ _ (by omega)
  · intro l hl; cases hl
end Go.Proofs.Ytgbijndfpbcjeaa
