/- Texts of sets, the program's, by their contracts. -/
import Derived.Test.YtlggnnndahgbjaaDoorStr
import Derived.Test.YtlggnnndahgbjaaDoorShelf
namespace Go.Proofs.YtlggnnndahgbjaaDoor
open Go.RowKit

def wordB (x : Int) : ByteArray := ⟨(dig x).toArray⟩
theorem dec_dig {x : Int} (h0 : 0 ≤ x) (h1 : x ≤ 9) : Lib.decDigits x.toNat = dig x := by
  rw [Lib.decDigits, dif_pos (by omega)]; rfl
theorem join_fmt {m : Nat} (h : m < 64) : [123] ++ Lib.join ((mem m).map dig) [44] ++ [125] = fmt (mem m) ∧ (Lib.join ((mem m).map dig) [44]).length ≤ 11 := by
  have H : ∀ m : Fin 64, [123] ++ Lib.join ((mem m.val).map dig) [44] ++ [125] = fmt (mem m.val) ∧ (Lib.join ((mem m.val).map dig) [44]).length ≤ 11 := by decide +kernel
  exact H ⟨m, h⟩
theorem empty_text : Value.string ((⟨#[123]⟩ : ByteArray) ++ ⟨#[]⟩ ++ ⟨#[125]⟩) = S (fmt []) := by
  rw [show (⟨#[123]⟩ : ByteArray) = ⟨([123] : List UInt8).toArray⟩ from rfl, show (⟨#[]⟩ : ByteArray) = ⟨([] : List UInt8).toArray⟩ from rfl, show (⟨#[125]⟩ : ByteArray) = ⟨([125] : List UInt8).toArray⟩ from rfl, ba_app, ba_app]; rfl
theorem mem_at {m : Nat} (h : m < 64) {k : Nat} {x : Int} (hx : (mem m)[k]? = some x) : 1 ≤ x ∧ x ≤ 6 := vld_at (vld_mem h) hx
theorem str_info : (Tryd.prog.info? 9).map (fun i => (i.zero, i.size, i.bytes)) = some (some (.string ⟨#[]⟩), 1, 16) := by kernel_rfl
theorem str_app {w wr w1 : World} {v v' : Value} {o : Obj} {xs : List ByteArray} {x : ByteArray} (hown : wr.ownsRow w.heap.size 9 1 v xs.length (xs.map Value.string)) (hb : Below w.heap.size w wr)
    (hown' : w1.ownsRow w.heap.size 9 1 v' (xs.length + 1) (xs.map Value.string ++ [.string x])) (hg : (wr.alloc o).grownBy w1 v.ownBlock) :
    w1.ownsRow w.heap.size 9 1 v' (xs ++ [x]).length ((xs ++ [x]).map Value.string) ∧ Below w.heap.size w w1 :=
  ⟨by simpa using hown', (hb.alloc hb.size o).grown hg (by have := hb.size; simp; omega) (fun k hk => (hown.lt k hk).1)⟩
def wordsTo (l : List Int) (k : Nat) : List ByteArray := (l.take k).map wordB
theorem wordsTo_step {l : List Int} {k : Nat} {x : Int} (hx : l[k]? = some x) : wordsTo l (k + 1) = wordsTo l k ++ [wordB x] := by simp [wordsTo, List.take_add_one, hx]
theorem wordsTo_len (l : List Int) (k : Nat) : (wordsTo l k).length ≤ k := by simp [wordsTo]; omega

set_option maxHeartbeats 1600000 in
theorem format_any (s : Nat) (w : World) (hs : s < 64) :
    Calls Tryd.prog 16 #[.int .u8 s] w fun e w' => e = .returned (S (fmt (mem s))) ∧ Below w.heap.size w w' := by
  obtain ⟨i0, hi0, hz0, hz1, hz2⟩ := info_parts str_info
  have hml := mem_len s
  go_enter Tryd.func16, Tryd.ntmps16
  go_wp2_with fail
  refine (members_any _ _ hs).mono ?_
  rintro e w1 ⟨AM, cM, rfl, oM, b1⟩
  have iM := (IL.of_own oM).1
  clear oM
  obtain ⟨l, hl⟩ : ∃ l, l = mem s := ⟨_, rfl⟩
  rw [← hl] at iM hml ⊢
  have HL := Lib.hid hl
  clear hl
  go_wp2
  go_loopw [3, 9] (fun v i wr => ∃ k : Nat, k ≤ l.length ∧ i = .int .i64 k ∧ wr.ownsRow w1.heap.size 9 1 v (wordsTo l k).length ((wordsTo l k).map Value.string) ∧ Below w1.heap.size w1 wr) (fun _ i _ => l.length - (intOf i).toNat)
  case atStart => exact ⟨0, Nat.zero_le _, rfl, World.ownsRow_nil _ _ _ _, Below.refl _ _⟩
  case round =>
    obtain ⟨k, hk, rfl, hown, hbel⟩ := hrel
    by_cases hlt : k < l.length
    · obtain ⟨b, off, x, rfl, hx, hc⟩ := (iM.below hbel).at_ hlt
      obtain ⟨hx1, hx6⟩ := mem_at hs (by rw [← HL.out]; exact hx)
      obtain ⟨n, rfl⟩ := Int.eq_ofNat_of_zero_le (show 0 ≤ x by omega)
      have HX := Lib.hid hx
      have hwl := wordsTo_len l k
      clear hx
      go_wp2_with fail
      refine (Tryd.strconv_Itoa_small n (by omega) _).mono ?_
      rintro e w' ⟨rfl, rfl⟩
      rw [show Lib.decDigits n = dig (n : Int) from by rw [← dec_dig (x := (n : Int)) (by omega) (by omega), Int.toNat_natCast]]
      go_wp2_with (at_builtin; refine wpList_append_own _ rfl (.tmp 13) (.tmp 16) 45 rfl w1.heap.size 9 i0 (.string ⟨#[]⟩) 1 16 Tryd.underlying45 hi0 hz0 hz1 hz2 rfl (by decide) _ _ _ rfl (hown.alloc _) ⟨w'.heap.size, 0, none⟩ 1 1 [.string (wordB n)] rfl rfl (cell_one_new _ _ _) (by intro u hu; simp at hu; subst hu; rfl) (by unfold maxLen; omega) (by omega) (by have := hbel.size; simp; omega) ?_)
      intro v' w2 hown' hgrow _
      have R := str_app hown hbel hown' hgrow
      rw [← wordsTo_step HX.out] at R
      have HR := Lib.hid R
      clear R hown hown' hgrow hbel
      go_wp2
      go_roundw
      case rel => exact ⟨k + 1, by omega, by go_num, HR.out.1, HR.out.2⟩
      case measure => simp [intOf]; omega
    · have hkl : k = l.length := by omega
      subst hkl
      obtain ⟨AW, cW, rfl⟩ := own_slice hown
      have hJ := join_fmt hs
      rw [← HL.out] at hJ
      have hwords : (wordsTo l l.length).map (fun x => x.data.toList) = l.map dig := by simp [wordsTo, wordB, Function.comp_def]
      have b2 := below_step b1 hbel
      by_cases hz : (wordsTo l l.length).length = 0
      · have hl0 : l = [] := by simpa [wordsTo] using hz
        have HZ := Lib.hid hz
        have H0 := Lib.hid hl0
        rw [hz] at hown ⊢
        clear hz hl0 hwords hJ hown hbel
        go_wp2_with fail
        refine (Tryd.strings_Join_none _ _ _ _).mono ?_
        rintro e w' ⟨rfl, rfl⟩
        go_wp2
        go_ret
        exact ⟨by rw [← HL.out, H0.out]; exact congrArg Ending.returned empty_text, b2⟩
      · obtain ⟨g, rfl, _, hg⟩ := own_form hown (by omega)
        have hcap : (wordsTo l l.length).length ≤ cW := by
          rcases hown.2 with ⟨e, h0⟩ | ⟨g', cap, cur, e, _, _, hc', _⟩
          · omega
          · injection e with e1 e2 e3; omega
        have hcells : ∀ (j : Nat) x, (wordsTo l l.length)[j]? = some x → wr.cell? ⟨g, 0 + j, none⟩ = some (.string x) := by
          intro j x hx
          have := hown.cells (g := g) rfl j (.string x) (by simp [hx])
          rw [Addr.add_lit] at this
          exact this
        have hwl := wordsTo_len l l.length
        have HC := Lib.hid hcells
        have HJ := Lib.hid hJ
        have HW := Lib.hid hwords
        clear hcells hJ hwords hown hbel
        go_wp2_with fail
        refine (Tryd.strings_Join g 0 cW (wordsTo l l.length) ⟨#[44]⟩ _ HC.out hg (by omega) hcap (by rw [HW.out]; exact Nat.le_trans HJ.out.2 (by omega))).mono ?_
        rintro e w3 ⟨rfl, b3⟩
        rw [HW.out]
        have b4 := below_step b2 b3
        have hjl : (Lib.join (l.map dig) (⟨#[44]⟩ : ByteArray).data.toList).length ≤ 11 := HJ.out.2
        have HE := Lib.hid (show Value.string ((⟨#[123]⟩ : ByteArray) ++ ⟨(Lib.join (l.map dig) (⟨#[44]⟩ : ByteArray).data.toList).toArray⟩ ++ ⟨#[125]⟩) = S (fmt l) by
          rw [← HJ.out.1, show (⟨#[123]⟩ : ByteArray) = ⟨([123] : List UInt8).toArray⟩ from rfl, show (⟨#[125]⟩ : ByteArray) = ⟨([125] : List UInt8).toArray⟩ from rfl, ba_app, ba_app])
        generalize Lib.join (l.map dig) (⟨#[44]⟩ : ByteArray).data.toList = J at *
        go_wp2
        go_ret
        exact ⟨by rw [← HL.out]; exact congrArg Ending.returned HE.out, b4⟩

set_option maxHeartbeats 800000 in
theorem implFormat_any (A : Option Addr) (c : Nat) (l : List Int) (w : World) (ha : IL w A l) (hl : l.length ≤ 1048576) :
    Calls Tryd.prog 6 #[.slice A l.length c] w fun e w' => e = .returned (S (fmtR l)) ∧ Below w.heap.size w w' := by
  cases hv : vld l
  · have H := Lib.hid (show fmtR l = [] by simp [fmtR, hv])
    have HV := Lib.hid hv
    clear hv
    go_enter Tryd.func6, Tryd.ntmps6
    go_wp2_with fail
    refine (bitsOf_no _ _ _ _ ha HV.out hl).mono ?_
    rintro e w' ⟨rfl, rfl⟩
    go_wp2
    go_ret
    exact ⟨by rw [H.out]; rfl, Below.refl _ _⟩
  · have H := Lib.hid (show fmtR l = fmt (mem (msk l)) by simp [fmtR, hv, mem_msk hv])
    have HV := Lib.hid hv
    have hm := msk_lt hv
    clear hv
    go_enter Tryd.func6, Tryd.ntmps6
    go_wp2_with fail
    refine (bitsOf_yes _ _ _ _ ha HV.out).mono ?_
    rintro e w' ⟨rfl, rfl⟩
    go_wp2_with fail
    refine (format_any _ _ hm).mono ?_
    rintro e w1 ⟨rfl, b1⟩
    go_wp2
    go_ret
    exact ⟨by rw [H.out]; rfl, b1⟩

end Go.Proofs.YtlggnnndahgbjaaDoor
