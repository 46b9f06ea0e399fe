/- Drawn pairs of quorum systems by their contracts. -/
import Derived.Test.YtmpcnefmlnkkjaaDrawFg
namespace Go.Proofs.Ytmpcnefmlnkkjaa
open Go.RowKit

def DrewFF (w : World) (e : Ending) (w' : World) : Prop :=
  ∃ (F G : List (List Int)) (A B : Option Addr) (c d : Nat), F.length ≤ 65 ∧ G.length ≤ 65 ∧ Short F 7 ∧ Short G 7 ∧ e = .returned (.tuple #[.slice A F.length c, .slice B G.length d]) ∧ ISS w' A F ∧ ISS w' B G ∧ Below w.heap.size w w'

set_option maxRecDepth 100000 in
set_option maxHeartbeats 1600000 in
theorem drawEith_any (A : Option Addr) (c : Nat) (l : List Int) (w : World) (ha : BL w A l) (hc : l.length ≤ c) (hm : l.length ≤ maxLen) (hmc : c ≤ maxLen) :
    Calls Try.prog 27 #[.slice A l.length c] w (DrewFF w) := by
  go_enter Try.func27, Try.ntmps27
  go_wp2_with fail
  refine (l6Open_any _ _ _ _ ha hc hm hmc).mono ?_
  rintro e w1 ⟨rfl, hr1, b1⟩
  have hlt := hr1.lt
  go_wp2_with fail
  refine (l91Family_any _ _ _ hr1 (by omega)).mono ?_
  rintro e w2 ⟨F, A2, c2, q2, hF, hS, rfl, o2, hr2, hq2, g2⟩
  go_wp2_with fail
  refine (l91Family_any _ _ _ hr2 (by omega)).mono ?_
  rintro e w3 ⟨G, A3, c3, q3, hG, hT, rfl, o3, hr3, hq3, g3⟩
  have B2 := rd_below b1 g2
  have B3 : Below w.heap.size w w3 := B2.grown g3 B2.size (fun k hk => by injection hk with hk; omega)
  have D := Lib.hid (show DrewFF w (.returned (.tuple #[.slice A2 F.length c2, .slice A3 G.length c3])) w3 from ⟨F, G, A2, A3, c2, c3, hF, hG, hS, hT, rfl, (o2.far g3 hlt).iss, o3.iss, B3⟩)
  clear o2 o3 hr1 hr2 hr3 g2 g3 b1 B2 B3
  go_wp2
  go_ret2
  exact D.out

end Go.Proofs.Ytmpcnefmlnkkjaa
