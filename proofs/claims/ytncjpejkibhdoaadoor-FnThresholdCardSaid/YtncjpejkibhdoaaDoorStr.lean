/- Texts of sets, the model's, by their contracts. -/
import Derived.Test.YtncjpejkibhdoaaDoorSpec
namespace Go.Proofs.YtncjpejkibhdoaaDoor
open Go.RowKit

def dig (x : Int) : List UInt8 := [UInt8.ofNat (48 + x.toNat)]
def fmtK (l : List Int) : Nat → List UInt8
  | 0 => [123]
  | k + 1 => fmtK l k ++ (if k = 0 then [] else [44]) ++ dig (l.getD k 0)
def fmt (l : List Int) : List UInt8 := fmtK l l.length ++ [125]
abbrev S (l : List UInt8) : Value := .string ⟨l.toArray⟩
theorem ba_app (a b : List UInt8) : (⟨a.toArray⟩ : ByteArray) ++ ⟨b.toArray⟩ = ⟨(a ++ b).toArray⟩ := by apply ByteArray.ext; simp
theorem fmtK_len (l : List Int) (k : Nat) : (fmtK l k).length ≤ 2 * k + 1 := by
  induction k with
  | zero => simp [fmtK]
  | succ k ih => simp only [fmtK, List.length_append, dig, List.length_cons, List.length_nil]; split <;> simp <;> omega

theorem small_byte {x : Int} (h0 : 0 ≤ x) (h1 : x ≤ 9) : ((UInt8.ofNat (48 + x.toNat)).toNat : Int) = 48 + x := by
  have H : ∀ n : Fin 10, (UInt8.ofNat (48 + n.val)).toNat = 48 + n.val := by decide
  have := H ⟨x.toNat, by omega⟩
  simp only at this
  rw [this]; omega
set_option maxRecDepth 100000 in
set_option maxHeartbeats 800000 in
theorem l6Dec_digit (x : Int) (w : World) (h0 : 0 ≤ x) (h1 : x ≤ 9) :
    Calls Tryd.prog 20 #[.int .i64 x] w fun e w' => e = .returned (S (dig x)) ∧ Below w.heap.size w w' := by
  have hcv : (convert 22 9 (.slice (some ⟨w.heap.size, 0, none⟩) 1 1)).run Tryd.prog (w.alloc (.cells #[.int .u8 (48 + x)] 5)) = .ok (S (dig x)) (w.alloc (.cells #[.int .u8 (48 + x)] 5)) :=
    run_convert_bytes_back (P := Tryd.prog) (w.alloc (.cells #[.int .u8 (48 + x)] 5)) 22 9 5 ⟨w.heap.size, 0, none⟩ 1 (dig x) Tryd.underlying22 Tryd.underlying5 Tryd.underlying9 (by
      intro j hj
      have hj0 : j = 0 := by simp [dig] at hj; omega
      subst hj0
      show _ = some (Value.int .u8 ((UInt8.ofNat (48 + x.toNat)).toNat : Int))
      rw [small_byte h0 h1]
      exact cell_one_new w _ _ 0 _ rfl)
  go_enter Tryd.func20, Tryd.ntmps20
  go_wp2
  go_ret
  exact ⟨rfl, (Below.refl _ _).alloc (Nat.le_refl _) _⟩

theorem fmtK_step {l : List Int} {k : Nat} {x : Int} (hx : l[k]? = some x) : fmtK l (k + 1) = fmtK l k ++ (if k = 0 then [] else [44]) ++ dig x := by
  simp [fmtK, List.getD, hx]

set_option maxRecDepth 100000 in
set_option maxHeartbeats 1600000 in
theorem l1Format_any (A : Option Addr) (c : Nat) (l : List Int) (w : World) (ha : IL w A l) (hv : vld l = true) :
    Calls Tryd.prog 19 #[.slice A l.length c] w fun e w' => e = .returned (S (fmt l)) ∧ Below w.heap.size w w' := by
  have hl := vld_len hv
  have HV := Lib.hid hv
  clear hv
  go_enter Tryd.func19, Tryd.ntmps19
  go_wp2
  go_loopw [3, 4] (fun v i wr => ∃ k : Nat, k ≤ l.length ∧ i = .int .i64 k ∧ v = S (fmtK l k) ∧ Below w.heap.size w wr) (fun _ i _ => l.length - (intOf i).toNat)
  case atStart => exact ⟨0, Nat.zero_le _, rfl, rfl, Below.refl _ _⟩
  case round =>
    obtain ⟨k, hk, rfl, rfl, hbel⟩ := hrel
    by_cases hlt : k < l.length
    · obtain ⟨b, off, x, rfl, hx, hc⟩ := (ha.below hbel).at_ hlt
      obtain ⟨hx1, hx6⟩ := vld_at HV.out hx
      have HX := Lib.hid hx
      clear hx
      have hfl := fmtK_len l k
      have hdl : (dig x).length ≤ 1 := by simp [dig]
      by_cases hk0 : k = 0
      · have hkd : decide (0 < k) = false := by simp; omega
        have HE := Lib.hid (show Value.string ((⟨(fmtK l k).toArray⟩ : ByteArray) ++ ⟨(dig x).toArray⟩) = S (fmtK l (k + 1)) by rw [fmtK_step HX.out, if_pos hk0, ba_app]; simp)
        have HK0 := Lib.hid hk0
        clear hk0
        go_wp2_with fail
        refine (l6Dec_digit _ _ (by omega) (by omega)).mono ?_
        rintro e w1 ⟨rfl, b1⟩
        have b2 := hbel.trans (b1.mono hbel.size)
        clear hbel b1
        go_wp2
        go_roundw
        case rel => exact ⟨k + 1, by omega, by go_num, HE.out, b2⟩
        case measure => simp [intOf]; omega
      · have HE := Lib.hid (show Value.string ((⟨(fmtK l k).toArray⟩ : ByteArray) ++ ⟨#[44]⟩ ++ ⟨(dig x).toArray⟩) = S (fmtK l (k + 1)) by
          rw [fmtK_step HX.out, if_neg hk0, show (⟨#[44]⟩ : ByteArray) = ⟨([44] : List UInt8).toArray⟩ from rfl, ba_app, ba_app])
        go_wp2_with fail
        refine (l6Dec_digit _ _ (by omega) (by omega)).mono ?_
        rintro e w1 ⟨rfl, b1⟩
        have b2 := hbel.trans (b1.mono hbel.size)
        clear hbel b1
        go_wp2
        go_roundw
        case rel => exact ⟨k + 1, by omega, by go_num, HE.out, b2⟩
        case measure => simp [intOf]; omega
    · have hkl : k = l.length := by omega
      subst hkl
      have hfl := fmtK_len l l.length
      have HE := Lib.hid (show Value.string ((⟨(fmtK l l.length).toArray⟩ : ByteArray) ++ ⟨#[125]⟩) = S (fmt l) by
        rw [show (⟨#[125]⟩ : ByteArray) = ⟨([125] : List UInt8).toArray⟩ from rfl, ba_app]; rfl)
      go_wp2
      go_ret
      exact ⟨congrArg Ending.returned HE.out, hbel⟩

/-- The text of a set, empty for an invalid one. -/
def fmtR (l : List Int) : List UInt8 := if vld l = true then fmt l else []
end Go.Proofs.YtncjpejkibhdoaaDoor
