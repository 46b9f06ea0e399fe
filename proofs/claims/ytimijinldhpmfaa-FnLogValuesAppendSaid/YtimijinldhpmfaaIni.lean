/- What the heading of the program says, read off its signs. -/
import Derived.Test.YtimijinldhpmfaaRows
import Derived.WalkKit
import Derived.ProofKit
import Derived.OpenShut
namespace Go.Proofs.Ytimijinldhpmfaa
set_option maxRecDepth 100000
def cutWord : List Char := [Char.ofNat 99, Char.ofNat 117, Char.ofNat 116]
theorem head_some {l : List (List Char)} {c : List Char} (h : l.head? = some c) : ∃ r, l = c :: r := by
  cases l with
  | nil => cases h
  | cons a r => exact ⟨r, by injection h with h; rw [h]⟩
theorem strip_cut (r : List (List Char)) : stripLifts liftWords (cutWord :: r) = ([], cutWord :: r) := by rfl
theorem make_of {P : Program} {L : List Char} (h : P.initOrder.toList = L) (hh : (behindMainWord (wordsSigns L)).head? = some cutWord) : P.make = some .cut := by
  obtain ⟨r, hr⟩ := head_some hh
  unfold Program.make
  rw [h, hr]
  rfl
theorem lift_of {P : Program} {L : List Char} (h : P.initOrder.toList = L) (hh : (behindMainWord (wordsSigns L)).head? = some cutWord) : P.liftsFinal = false := by
  obtain ⟨r, hr⟩ := head_some hh
  unfold Program.liftsFinal Program.headLifts
  rw [h, hr, strip_cut]
  rfl
theorem enter_of {P : Program} {L : List Char} (h : P.initOrder.toList = L) (hh : (behindMainWord (wordsSigns L)).head? = some cutWord) (h1 : P.laysLater = false) (h2 : P.bearsReflect = false) (h3 : P.doorFits [] = true) : P.mayEnter = true := by
  obtain ⟨r, hr⟩ := head_some hh
  unfold Program.mayEnter
  rw [h, hr]
  simp only [strip_cut, h1, h2, h3]
  rfl
def iniList : List Nat := [104, 97, 114, 110, 101, 115, 115, 32, 102, 98, 55, 97, 49, 100, 97, 49, 51, 55, 51, 52, 52, 99, 49, 54, 53, 100, 54, 100, 54, 97, 56, 48, 102, 50, 49, 52, 54, 52, 101, 54, 50, 55, 51, 48, 49, 102, 48, 54, 102, 56, 50, 99, 56, 52, 98, 101, 99, 57, 49, 100, 48, 99, 101, 56, 57, 55, 98, 102, 54, 98, 98, 52, 32, 99, 117, 116, 32, 97, 116, 32, 108, 111, 111, 112, 46, 101, 120, 97, 109, 112, 108, 101, 47, 102, 108, 101, 120, 113, 117, 111, 114, 117, 109, 47, 108, 97, 119, 115, 46, 70, 110, 76, 111, 103, 67, 111, 110, 102, 105, 103, 32, 108, 111, 111, 112, 46, 101, 120, 97, 109, 112, 108, 101, 47, 102, 108, 101, 120, 113, 117, 111, 114, 117, 109, 47, 108, 97, 119, 115, 46, 70, 110, 76, 111, 103, 67, 111, 110, 102, 105, 103, 83, 116, 97, 98, 108, 101, 32, 108, 111, 111, 112, 46, 101, 120, 97, 109, 112, 108, 101, 47, 102, 108, 101, 120, 113, 117, 111, 114, 117, 109, 47, 108, 97, 119, 115, 46, 70, 110, 76, 111, 103, 67, 111, 110, 102, 105, 103, 80, 114, 101, 102, 105, 120, 32, 108, 111, 111, 112, 46, 101, 120, 97, 109, 112, 108, 101, 47, 102, 108, 101, 120, 113, 117, 111, 114, 117, 109, 47, 108, 97, 119, 115, 46, 70, 110, 76, 111, 103, 79, 112, 101, 110, 32, 108, 111, 111, 112, 46, 101, 120, 97, 109, 112, 108, 101, 47, 102, 108, 101, 120, 113, 117, 111, 114, 117, 109, 47, 108, 97, 119, 115, 46, 70, 110, 76, 111, 103, 79, 112, 101, 110, 83, 104, 105, 102, 116, 32, 108, 111, 111, 112, 46, 101, 120, 97, 109, 112, 108, 101, 47, 102, 108, 101, 120, 113, 117, 111, 114, 117, 109, 47, 108, 97, 119, 115, 46, 70, 110, 76, 111, 103, 65, 112, 112, 101, 110, 100, 32, 108, 111, 111, 112, 46, 101, 120, 97, 109, 112, 108, 101, 47, 102, 108, 101, 120, 113, 117, 111, 114, 117, 109, 47, 108, 97, 119, 115, 46, 70, 110, 76, 111, 103, 86, 97, 108, 117, 101, 115, 32, 108, 111, 111, 112, 46, 101, 120, 97, 109, 112, 108, 101, 47, 102, 108, 101, 120, 113, 117, 111, 114, 117, 109, 47, 108, 97, 119, 115, 46, 70, 110, 76, 111, 103, 86, 97, 108, 105, 100, 32, 108, 111, 111, 112, 46, 101, 120, 97, 109, 112, 108, 101, 47, 102, 108, 101, 120, 113, 117, 111, 114, 117, 109, 47, 108, 97, 119, 115, 46, 70, 110, 76, 111, 103, 86, 97, 108, 117, 101, 115, 65, 112, 112, 101, 110, 100, 32, 108, 111, 111, 112, 46, 101, 120, 97, 109, 112, 108, 101, 47, 102, 108, 101, 120, 113, 117, 111, 114, 117, 109, 47, 108, 97, 119, 115, 46, 70, 110, 76, 111, 103, 67, 111, 110, 102, 105, 103, 83, 116, 101, 112, 115, 32, 108, 111, 111, 112, 46, 101, 120, 97, 109, 112, 108, 101, 47, 102, 108, 101, 120, 113, 117, 111, 114, 117, 109, 47, 108, 97, 119, 115, 46, 70, 110, 69, 120, 97, 99, 116, 76, 111, 103, 86, 97, 108, 105, 100, 32, 108, 111, 111, 112, 46, 101, 120, 97, 109, 112, 108, 101, 47, 102, 108, 101, 120, 113, 117, 111, 114, 117, 109, 47, 108, 97, 119, 115, 46, 70, 110, 69, 120, 97, 99, 116, 76, 111, 103, 67, 111, 110, 102, 105, 103, 32, 108, 111, 111, 112, 46, 101, 120, 97, 109, 112, 108, 101, 47, 102, 108, 101, 120, 113, 117, 111, 114, 117, 109, 47, 108, 97, 119, 115, 46, 70, 110, 69, 120, 97, 99, 116, 76, 111, 103, 65, 112, 112, 101, 110, 100, 32, 108, 111, 111, 112, 46, 101, 120, 97, 109, 112, 108, 101, 47, 102, 108, 101, 120, 113, 117, 111, 114, 117, 109, 47, 108, 97, 119, 115, 46, 70, 110, 69, 120, 97, 99, 116, 76, 111, 103, 79, 112, 101, 110, 32, 108, 111, 111, 112, 46, 101, 120, 97, 109, 112, 108, 101, 47, 102, 108, 101, 120, 113, 117, 111, 114, 117, 109, 47, 108, 97, 119, 115, 46, 70, 110, 69, 120, 97, 99, 116, 76, 111, 103, 86, 97, 108, 117, 101, 115]
theorem iniText : Try.pinned.checked.prog.initOrder = String.ofList (iniList.map Char.ofNat) := by kernel_rfl
theorem iniSigns : Try.pinned.checked.prog.initOrder.toList = iniList.map Char.ofNat := (congrArg String.toList iniText).trans String.toList_ofList
theorem iniHead : (behindMainWord (wordsSigns (iniList.map Char.ofNat))).head? = some cutWord := by kernel_rfl
theorem iniEnter : Try.pinned.checked.prog.mayEnter = true := enter_of iniSigns iniHead (by kernel_rfl) (by kernel_rfl) (by kernel_rfl)
theorem iniLift : Try.pinned.checked.prog.liftsFinal = false := lift_of iniSigns iniHead
theorem iniMake : Try.pinned.checked.prog.make = some .cut := make_of iniSigns iniHead
end Go.Proofs.Ytimijinldhpmfaa
