/- A cut inside a region that draws its order. -/
import Derived.Deep.RegionLaw
import Derived.Test.YtngacjfoldgjpabGb
namespace Go.Proofs.Ytngacjfoldgjpab

theorem region_split {P : Program} {ops : Array Oper} {Q : Exit → Act → World → Prop} {id : Nat} {a : Act} {w : World} (D : Array Bool) (f : Nat) (M : Act → World → Prop)
    (h2 : ∀ a w, M a w → wpAny P .any ops Q f D a w) (h1 : (∀ a w, M a w → wpAny P .any ops Q f D a w) → (Code.region id ops true).wp P Q a w) : (Code.region id ops true).wp P Q a w := h1 h2
/-- A way is closed by what is known of all ways from the cut on. -/
theorem cut_close {P : Program} {md : Region.Mode} {ops : Array Oper} {Q : Exit → Act → World → Prop} {f : Nat} {L D : Array Bool} {K : Act → World → Prop} {a : Act} {w : World}
    (hK : ∀ a w, wpAny P md ops Q f L a w → K a w) (h : L = D) (k : wpAny P md ops Q f D a w) (_ : wpAny P .any #[] (fun _ _ _ => True) 0 #[] ⟨#[], []⟩ w) : K a w := hK a w (by rw [h]; exact k)
/-- The walk of the ways from the cut on begins at one idle operation. -/
theorem enter {P : Program} {G : Prop} {w : World} (h : (Code.region 0 #[{ dst := none, op := .call { callee := .builtin .append, args := #[], argTypes := #[] }, type := 0, pos := "", after := #[], guard := some (0, true) }] true).wp P (fun _ _ _ => G) ⟨#[], []⟩ w) : G := by
  obtain ⟨e, a', w', q, _⟩ := h default [] []
  exact q
theorem enter_step {P : Program} {ops : Array Oper} {Q : Exit → Act → World → Prop} {G : Prop} {o : Oper} {a : Act} {w : World} {K : Act → World → Prop} {L : Array Bool}
    (hK : ∀ a w, wpAny P .any ops (fun _ _ _ => G) 0 L a w → K a w) (hr : Region.ready .any ops L = []) (hw : Region.wanted o (yielded ops a.tmps) = false) (g : G) :
    if Region.wanted o (yielded ops a.tmps) = true then Oper.wp P o a w K Q else K (a.put o.dst undef) w := by
  rw [if_neg (by rw [hw]; simp)]
  exact hK _ _ ⟨hr, g⟩
end Go.Proofs.Ytngacjfoldgjpab
