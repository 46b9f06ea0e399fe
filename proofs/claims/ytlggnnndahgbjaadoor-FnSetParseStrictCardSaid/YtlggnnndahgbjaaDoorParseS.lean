/- The model's SetParse by its contract. -/
import Derived.Test.YtlggnnndahgbjaaDoorParse
import Derived.Test.YtlggnnndahgbjaaDoorOfMask
namespace Go.Proofs.YtlggnnndahgbjaaDoor
open Go.RowKit

def outTo (t : List UInt8) (k : Nat) : List Int := (List.range k).map fun j => ((t.getD (2 * j + 1) 0).toNat : Int) - 48
def outK (t : List UInt8) : Nat := if t.length ≤ 13 then (t.length - 1) / 2 else 0
def outL (t : List UInt8) : List Int := outTo t (outK t)
theorem outTo_succ (t : List UInt8) (k : Nat) : outTo t (k + 1) = outTo t k ++ [((t.getD (2 * k + 1) 0).toNat : Int) - 48] := by simp [outTo, List.range_succ]
theorem outTo_len (t : List UInt8) (k : Nat) : (outTo t k).length = k := by simp [outTo]
theorem fmt_facts {k : Nat} (h : k < 64) : outL (fmt (mem k)) = mem k ∧ fmt (mem k) ≠ [] ∧ fmtR (mem k) = fmt (mem k) := by
  have H : ∀ k : Fin 64, outL (fmt (mem k.val)) = mem k.val ∧ fmt (mem k.val) ≠ [] ∧ fmtR (mem k.val) = fmt (mem k.val) := by decide +kernel
  exact H ⟨k, h⟩
theorem hit_out {t : List UInt8} {k : Nat} (h : Hit t k) : outL t = mem k ∧ t ≠ [] ∧ fmtR (outL t) = t := by
  obtain ⟨h1, h2⟩ := fmt_facts h.1
  rw [← h.2]
  refine ⟨h1, h2.1, by rw [h1]; exact h2.2⟩
theorem miss_out {t : List UInt8} (h : Miss t) (ht : t ≠ []) : fmtR (outL t) ≠ t := by
  intro e
  by_cases hv : vld (outL t) = true
  · have h1 := h (msk (outL t)) (msk_lt hv)
    rw [mem_msk hv] at h1
    simp only [fmtR, hv, if_true] at e
    exact h1 e
  · simp only [fmtR, hv] at e
    exact ht e.symm

theorem toList_len (t : ByteArray) : t.toList.length = t.size := by rw [ByteArray.toList_eq]; rfl
theorem elem_eq (t : ByteArray) (k : Nat) (h : 2 * k + 1 < t.size) : ((t.toList.getD (2 * k + 1) 0).toNat : Int) - 48 = ((t[2 * k + 1]'h).toNat : Int) - 48 := by
  have e : t.toList.getD (2 * k + 1) 0 = t[2 * k + 1]'h := by
    rw [ByteArray.toList_eq, List.getD_eq_getElem?_getD, List.getElem?_eq_getElem (by simpa using h)]
    rfl
  rw [e]
theorem outK_le (t : ByteArray) : outK t.toList ≤ 6 ∧ (∀ k, k < outK t.toList → t.size ≤ 13 ∧ 2 * k + 2 < t.size) ∧ (t.size ≤ 13 → ∀ k, ¬ k < outK t.toList → ¬ 2 * k + 2 < t.size) := by
  unfold outK
  rw [toList_len]
  split
  · exact ⟨by omega, fun k hk => by omega, fun _ k hk => by omega⟩
  · exact ⟨by omega, fun k hk => by omega, fun h => absurd h (by assumption)⟩

set_option maxHeartbeats 1600000 in
theorem specParse_any (t : ByteArray) (w : World) (hm : t.size ≤ 1048576) :
    Calls Tryd.prog 11 #[.string t] w fun e w' => (∃ k, Hit t.toList k ∧ New2 w (mem k) true e w') ∨ (Miss t.toList ∧ New2 w [] false e w') := by
  obtain ⟨i0, hi0, hz0, hz1, hz2⟩ := info_parts int_info
  obtain ⟨hK6, hKy, hKn⟩ := outK_le t
  have HKy := Lib.hid hKy
  have HKn := Lib.hid hKn
  clear hKy hKn
  go_enter Tryd.func11, Tryd.ntmps11
  go_wp2
  go_loopw [4, 5] (fun v i wr => ∃ k : Nat, k ≤ outK t.toList ∧ i = .int .i64 (2 * k + 1 : Nat) ∧ wr.ownsRow w.heap.size 3 1 v (outTo t.toList k).length ((outTo t.toList k).map (Value.int .i64)) ∧ Below w.heap.size w wr) (fun _ i _ => 40 - (intOf i).toNat)
  case atStart => exact ⟨0, by omega, rfl, World.ownsRow_made w #[] 0 (Nat.le_refl _) (Nat.zero_le _) rfl, (Below.refl _ _).alloc (Nat.le_refl _) _⟩
  case round =>
    obtain ⟨k, hk, rfl, hown, hbel⟩ := hrel
    have hol : (outTo t.toList k).length ≤ k := Nat.le_of_eq (outTo_len _ _)
    by_cases hlt : k < outK t.toList
    · obtain ⟨hs1, hs2⟩ := HKy.out k hlt
      have hin : 2 * k + 1 < t.size := by omega
      have hb1 : ((t[2 * k + 1]'hin).toNat : Int) ≤ 255 := by have := (t[2 * k + 1]'hin).toNat_lt; omega
      have HE := Lib.hid (elem_eq t k hin)
      go_wp2_with (at_builtin; refine wpList_append_own _ rfl (.tmp 19) (.tmp 25) 23 rfl w.heap.size 3 i0 (.int .i64 0) 1 8 Tryd.underlying23 hi0 hz0 hz1 hz2 rfl (by decide) _ _ _ rfl (hown.alloc _) ⟨wr.heap.size, 0, none⟩ 1 1 [.int .i64 (((t[2 * k + 1]'hin).toNat : Int) - 48)] rfl rfl (cell_one_new _ _ _) (ints_oneCell .i64 [(((t[2 * k + 1]'hin).toNat : Int) - 48)]) (by unfold maxLen; omega) (by omega) (by have := hbel.size; simp; omega) ?_)
      intro v' w1 hown' hgrow _
      have R := app_one hown hbel hown' hgrow
      rw [← HE.out, ← outTo_succ] at R
      have HR := Lib.hid R
      clear R hown hown' hgrow hbel
      go_wp2
      go_roundw
      case rel => exact ⟨k + 1, by omega, by go_num, HR.out.1, HR.out.2⟩
      case measure => simp [intOf]; omega
    · have hkl : k = outK t.toList := by omega
      subst hkl
      have hown2 : wr.ownsRow w.heap.size 3 1 _ (outL t.toList).length ((outL t.toList).map (Value.int .i64)) := hown
      obtain ⟨AO, cO, rfl⟩ := own_slice hown2
      have hoL : (outL t.toList).length ≤ 6 := Nat.le_trans hol hK6
      by_cases h13 : t.size ≤ 13
      · have hex : ¬ 2 * outK t.toList + 2 < t.size := HKn.out h13 _ hlt
        by_cases he : t.toList = []
        · have D := Lib.hid (New2.made hbel)
          have HE := Lib.hid he
          have he2 : t.toList.isEmpty = true := by simpa using he
          clear hown hown2 hbel HKy HKn he
          go_wp2
          go_ret2
          exact .inr ⟨fun j hj => by rw [HE.out]; exact (fmt_facts hj).2.1, D.out⟩
        · have iO := (IL.of_own hown2).1
          have he2 : t.toList.isEmpty = false := by simpa using he
          have HE := Lib.hid he
          clear he
          by_cases hh : ∃ k, Hit t.toList k
          · obtain ⟨k, hk'⟩ := hh
            obtain ⟨h1, _, h3⟩ := hit_out hk'
            have HH := Lib.hid hk'
            have H1 := Lib.hid h1
            have hq : (fmtR (outL t.toList) == t.toList) = true := by simpa using h3
            have hq2 : (fmtR (outL t.toList) != t.toList) = false := by simpa using h3
            clear h1 h3 hk'
            go_wp2_with fail
            refine (specFormat_any _ _ _ _ iO (by omega)).mono ?_
            rintro e w2 ⟨rfl, b2⟩
            have hown3 := hown2.kept (row := none) ⟨b2.os, b2.tape, b2.output, b2.size, fun i hi _ => b2.block i hi⟩ (by cases (Value.slice AO (outL t.toList).length cO).ownBlock <;> simp)
            have D := Lib.hid (New2.mk (b := true) hown3 (below_step hbel b2))
            clear hown hown2 hown3 hbel b2 iO HKy HKn
            go_wp2
            go_ret2
            exact .inl ⟨k, HH.out, by rw [← H1.out]; exact D.out⟩
          · have hms : Miss t.toList := fun j hj e => hh ⟨j, hj, e⟩
            have HM := Lib.hid hms
            have hne := miss_out hms HE.out
            have hq : (fmtR (outL t.toList) == t.toList) = false := by simpa using hne
            have hq2 : (fmtR (outL t.toList) != t.toList) = true := by simpa using hne
            clear hms hne hh
            go_wp2_with fail
            refine (specFormat_any _ _ _ _ iO (by omega)).mono ?_
            rintro e w2 ⟨rfl, b2⟩
            have D := Lib.hid (New2.made (below_step hbel b2))
            clear hown hown2 hbel b2 iO HKy HKn
            go_wp2
            go_ret2
            exact .inr ⟨HM.out, D.out⟩
      · have hbig : 13 < t.size := by omega
        have hK0 : outK t.toList ≤ 0 := by unfold outK; rw [toList_len, if_neg h13]; omega
        by_cases he : t.toList = []
        · have D := Lib.hid (New2.made hbel)
          have HE := Lib.hid he
          have he2 : t.toList.isEmpty = true := by simpa using he
          clear hown hown2 hbel HKy HKn he
          go_wp2
          go_ret2
          exact .inr ⟨fun j hj => by rw [HE.out]; exact (fmt_facts hj).2.1, D.out⟩
        · have iO := (IL.of_own hown2).1
          have he2 : t.toList.isEmpty = false := by simpa using he
          have HE := Lib.hid he
          clear he
          by_cases hh : ∃ k, Hit t.toList k
          · obtain ⟨k, hk'⟩ := hh
            obtain ⟨h1, _, h3⟩ := hit_out hk'
            have HH := Lib.hid hk'
            have H1 := Lib.hid h1
            have hq : (fmtR (outL t.toList) == t.toList) = true := by simpa using h3
            have hq2 : (fmtR (outL t.toList) != t.toList) = false := by simpa using h3
            clear h1 h3 hk'
            go_wp2_with fail
            refine (specFormat_any _ _ _ _ iO (by omega)).mono ?_
            rintro e w2 ⟨rfl, b2⟩
            have hown3 := hown2.kept (row := none) ⟨b2.os, b2.tape, b2.output, b2.size, fun i hi _ => b2.block i hi⟩ (by cases (Value.slice AO (outL t.toList).length cO).ownBlock <;> simp)
            have D := Lib.hid (New2.mk (b := true) hown3 (below_step hbel b2))
            clear hown hown2 hown3 hbel b2 iO HKy HKn
            go_wp2
            go_ret2
            exact .inl ⟨k, HH.out, by rw [← H1.out]; exact D.out⟩
          · have hms : Miss t.toList := fun j hj e => hh ⟨j, hj, e⟩
            have HM := Lib.hid hms
            have hne := miss_out hms HE.out
            have hq : (fmtR (outL t.toList) == t.toList) = false := by simpa using hne
            have hq2 : (fmtR (outL t.toList) != t.toList) = true := by simpa using hne
            clear hms hne hh
            go_wp2_with fail
            refine (specFormat_any _ _ _ _ iO (by omega)).mono ?_
            rintro e w2 ⟨rfl, b2⟩
            have D := Lib.hid (New2.made (below_step hbel b2))
            clear hown hown2 hbel b2 iO HKy HKn
            go_wp2
            go_ret2
            exact .inr ⟨HM.out, D.out⟩
end Go.Proofs.YtlggnnndahgbjaaDoor
