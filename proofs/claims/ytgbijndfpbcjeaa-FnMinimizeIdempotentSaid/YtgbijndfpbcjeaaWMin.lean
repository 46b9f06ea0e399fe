/- The walk of the law on FamilyMinimize. -/
import Derived.Test.YtgbijndfpbcjeaaMinT
namespace Go.Proofs.Ytgbijndfpbcjeaa
open Go.RowKit

theorem markSS_i (lo hi : Nat) (A : Option Addr) (c : Nat) (F : List (List Int)) (k : Nat) (K : Int) (hK : K = (k : Int)) (w : World) (ha : OSS w lo hi A c F) (hl : F.length ≤ 1048576) (hs : wt F ≤ 1048576) (hk : k ≤ 1048577) :
    Calls Try.prog 38 #[.slice A F.length c, .int .i64 K] w fun e w' =>
      e = .returned (.int .i64 (K + wt F)) ∧ OSS w' lo hi A c (markSS k F) ∧ Keep lo hi w w' := by
  subst hK
  refine (markIntSS_own lo hi A c F k w ha hl hs hk).mono fun e w' ⟨he, h⟩ => ⟨?_, h⟩
  rw [he, Int.natCast_add]
theorem heldSS_i (A : Option Addr) (c : Nat) (F : List (List Int)) (k : Nat) (K : Int) (hK : K = (k : Int)) (w : World) (ha : ISS w A (markSS k F)) (hl : F.length ≤ 1048576) (hs : wt F ≤ 1048576) (hk : k ≤ 1048577) :
    Calls Try.prog 39 #[.slice A F.length c, .int .i64 K] w fun e w' => e = .returned (.int .i64 (K + wt F)) ∧ w = w' := by
  subst hK
  refine (heldIntSS_any A c F k w ha hl hs hk).mono fun e w' ⟨he, hw⟩ => ⟨?_, hw⟩
  rw [he, Int.natCast_add]

end Go.Proofs.Ytgbijndfpbcjeaa
