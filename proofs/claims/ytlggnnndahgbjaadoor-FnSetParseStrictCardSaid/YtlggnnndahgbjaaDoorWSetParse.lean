/- The walk of the law on SetParse. -/
import Derived.Test.YtlggnnndahgbjaaDoorParseS
import Derived.Test.YtlggnnndahgbjaaDoorOwn
namespace Go.Proofs.YtlggnnndahgbjaaDoor
open Go.RowKit

/-- What a text parses to. -/
def Res (t : List UInt8) (L : List Int) (b : Bool) : Prop := (∃ k, Hit t k ∧ L = mem k ∧ b = true) ∨ (Miss t ∧ L = [] ∧ b = false)
theorem res_ex (t : List UInt8) : ∃ L b, Res t L b := by
  by_cases h : ∃ k, Hit t k
  · obtain ⟨k, hk⟩ := h
    exact ⟨mem k, true, .inl ⟨k, hk, rfl, rfl⟩⟩
  · exact ⟨[], false, .inr ⟨fun j hj e => h ⟨j, hj, e⟩, rfl, rfl⟩⟩
theorem res_one {t : List UInt8} {L : List Int} {b : Bool} {w w' : World} {e : Ending} (h : Res t L b) (hp : (∃ k, Hit t k ∧ New2 w (mem k) true e w') ∨ (Miss t ∧ New2 w [] false e w')) : New2 w L b e w' := by
  rcases h with ⟨k, hk, rfl, rfl⟩ | ⟨hm, rfl, rfl⟩
  · rcases hp with ⟨k', hk', hn⟩ | ⟨hm, _⟩
    · rw [← (hit_out hk).1, (hit_out hk').1]; exact hn
    · exact absurd hk.2 (hm k hk.1)
  · rcases hp with ⟨k', hk', _⟩ | ⟨_, hn⟩
    · exact absurd hk'.2 (hm k' hk'.1)
    · exact hn
theorem res_len {t : List UInt8} {L : List Int} {b : Bool} (h : Res t L b) : L.length ≤ 6 := by
  rcases h with ⟨k, _, rfl, _⟩ | ⟨_, rfl, _⟩
  · exact mem_len k
  · simp

end Go.Proofs.YtlggnnndahgbjaaDoor
