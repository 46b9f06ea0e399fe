/- The walk of the law that quorums are minimal. -/
import Derived.Test.YtmpcnefmlnkkjaaDrawFg
import Derived.Deep.RegionLaw
namespace Go.Proofs.Ytmpcnefmlnkkjaa
open Go.RowKit

theorem subs_self (l : List Int) : subs l l = true := by rw [subs_iff]; intro x hx; exact has_mem.2 hx
theorem q_self {F : List (List Int)} (h : famOk F = true) {k : Nat} {l : List Int} (hx : F[k]? = some l) : hasQR F l = true := by
  have hv := famOk_allV h l (List.mem_of_getElem? hx)
  rw [hasQR, h, hv, hasL_mem hx (subs_self l)]
  rfl
theorem minus_one' {m : Nat} (hm : m < 64) {x : Int} (hx : x ∈ mem m) : both minus (mem m) [x] = mem (less m x) := by
  have H : ∀ m : Fin 64, ∀ x ∈ mem m.val, both minus (mem m.val) [x] = mem (less m.val x) := by decide +kernel
  exact H ⟨m, hm⟩ x hx
theorem q_less {F : List (List Int)} (h : famOk F = true) {k j : Nat} {l : List Int} {x : Int} (hx : F[k]? = some l) (hj : l[j]? = some x) : hasQR F (both minus l [x]) = false ∧ (both minus l [x]).length ≤ 6 := by
  have hV := famOk_allV h
  have hv := hV l (List.mem_of_getElem? hx)
  have hs := famOk_sys h
  have hm := msk_lt hv
  have hxm : x ∈ mem (msk l) := by rw [mem_msk hv]; exact List.mem_of_getElem? hj
  have e : both minus l [x] = mem (less (msk l) x) := by
    conv => lhs; rw [← mem_msk hv]
    exact minus_one' hm hxm
  have hl : less (msk l) x < 64 := Nat.lt_of_le_of_lt Nat.and_le_left hm
  rw [e]
  refine ⟨?_, mem_len _⟩
  rw [hasQR, h, vld_mem hl, hasL_eq hV (vld_mem hl), msk_mem hl]
  show hasQ (msks F) (less (msk l) x) = false
  rw [Bool.eq_false_iff]
  intro hh
  obtain ⟨q, hq, hqs⟩ := mem_hasQ.1 hh
  obtain ⟨h1, h2⟩ := less_of (hs.1 q hq) hm hxm hqs
  exact h2 (hs.2.2.1 q hq (msk l) (List.mem_map.2 ⟨l, List.mem_of_getElem? hx, rfl⟩) h1)
theorem il_one' {w : World} {b : Nat} {x : Int} (h : w.cell? ⟨b, 0, none⟩ = some (.int .i64 x)) : IL w (some ⟨b, 0, none⟩) [x] := by
  refine .inr ⟨b, 0, rfl, World.block_lt_of_cell? w _ h, fun j y hy => ?_⟩
  cases j with
  | zero => simp at hy; subst hy; exact h
  | succ j => simp at hy

end Go.Proofs.Ytmpcnefmlnkkjaa
