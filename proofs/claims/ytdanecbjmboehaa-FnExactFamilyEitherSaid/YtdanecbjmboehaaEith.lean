/- The program's sums and products of quorum systems, by their contracts. -/
import Derived.Test.YtdanecbjmboehaaLists
namespace Go.Proofs.Ytdanecbjmboehaa
open Go.RowKit

theorem fam_bits {F : List (List Int)} (h : famOk F = true) : Msk (msks F) ∧ (msks F).length ≤ 20 := ⟨msks_msk (famOk_allV h), by simp [msks]; exact famOk_len h⟩

/-- What the reading of two quorum systems hands back. -/
def Fams (w : World) (F G : List (List Int)) (e : Ending) (w' : World) : Prop :=
  Below w.heap.size w w' ∧ (((famOk F && famOk G) = false ∧ e = .returned (.tuple #[.slice none 0 0, .slice none 0 0, .bool false])) ∨
    (famOk F = true ∧ famOk G = true ∧ ∃ A c B d, e = .returned (.tuple #[.slice A (msks F).length c, .slice B (msks G).length d, .bool true]) ∧ IB w' A (msks F) ∧ IB w' B (msks G)))

set_option maxRecDepth 100000 in
set_option maxHeartbeats 800000 in
theorem familiesOf_any (A B : Option Addr) (c d : Nat) (F G : List (List Int)) (w : World) (ha : ISS w A F) (hb : ISS w B G) (hlf : F.length ≤ 1048576) (hlg : G.length ≤ 1048576) (hsf : Short F 1048576) (hsg : Short G 1048576) :
    Calls Try.prog 74 #[.slice A F.length c, .slice B G.length d] w (Fams w F G) := by
  go_enter Try.func74, Try.ntmps74
  go_wp2_with fail
  refine (familyOf_any _ _ _ _ ha hlf hsf).mono ?_
  rintro e w1 ⟨b1, ⟨hf, rfl⟩ | ⟨hf, A1, c1, rfl, o1⟩⟩
  · have HF := Lib.hid (show (famOk F && famOk G) = false by simp [hf])
    have hb' := hb.below b1
    clear hf
    go_wp2_with fail
    refine (familyOf_any _ _ _ _ hb' hlg hsg).mono ?_
    rintro e w2 ⟨b2, ⟨hg, rfl⟩ | ⟨hg, A2, c2, rfl, o2⟩⟩
    · clear hg
      go_wp2
      go_ret3
      exact ⟨below_step b1 b2, .inl ⟨HF.out, rfl⟩⟩
    · clear hg o2
      go_wp2
      go_ret3
      exact ⟨below_step b1 b2, .inl ⟨HF.out, rfl⟩⟩
  · have HF := Lib.hid hf
    have hb' := hb.below b1
    have hib := (IB.of_own o1).1
    clear hf o1
    go_wp2_with fail
    refine (familyOf_any _ _ _ _ hb' hlg hsg).mono ?_
    rintro e w2 ⟨b2, ⟨hg, rfl⟩ | ⟨hg, A2, c2, rfl, o2⟩⟩
    · have HG := Lib.hid (show (famOk F && famOk G) = false by simp [hg])
      clear hg
      go_wp2
      go_ret3
      exact ⟨below_step b1 b2, .inl ⟨HG.out, rfl⟩⟩
    · have HG := Lib.hid hg
      have HI := Lib.hid (And.intro (hib.below b2) (IB.of_own o2).1)
      clear hg o2
      go_wp2
      go_ret3
      exact ⟨below_step b1 b2, .inr ⟨HF.out, HG.out, A1, c1, A2, c2, rfl, HI.out.1, HI.out.2⟩⟩

def bothOk (F G : List (List Int)) : Bool := famOk F && famOk G
def eithM (F G : List (List Int)) : List Nat := msks F ++ msks G
def bothM (F G : List (List Int)) : List Nat := (msks F).flatMap fun a => (msks G).map fun b => a ||| b
def outM (M : List Nat) (ok : Bool) : List (List Int) := if ok = true then mems (mins M) else []
theorem take_n {K : List Nat} {k m : Nat} (h : K[k]? = some m) : K.take (k + 1) = K.take k ++ [m] := by simp [List.take_add_one, h]
theorem perm_snoc {b b' X : List Nat} {m : Nat} (h : b'.Perm (m :: b)) (h2 : b.Perm X) : b'.Perm (X ++ [m]) := h.trans ((List.Perm.cons _ h2).trans (List.perm_append_comm (l₁ := [m])))

/-- The end of each: the heap is emptied, its minimal sets are listed. -/
theorem made_below {w : World} : Below w.heap.size w ((w.alloc (.cells #[] 53)).alloc (.cells #[.slice (some ⟨w.heap.size, 0, none⟩) 0 0] 52)) :=
  ((Below.refl _ w).alloc (Nat.le_refl _) _).alloc (by simp) _

set_option maxRecDepth 100000 in
set_option maxHeartbeats 1600000 in
theorem implEither_any (A B : Option Addr) (c d : Nat) (F G : List (List Int)) (w : World) (ha : ISS w A F) (hb : ISS w B G) (hlf : F.length ≤ 1048576) (hlg : G.length ≤ 1048576) (hsf : Short F 1048576) (hsg : Short G 1048576) :
    Calls Try.prog 39 #[.slice A F.length c, .slice B G.length d] w (NewSS2 w (outM (eithM F G) (bothOk F G)) (bothOk F G)) := by
  go_enter Try.func39, Try.ntmps39
  go_wp2_with fail
  refine (familiesOf_any _ _ _ _ _ _ _ ha hb hlf hlg hsf hsg).mono ?_
  rintro e w1 ⟨b1, ⟨hf, rfl⟩ | ⟨hf, hg, A1, c1, A2, c2, rfl, hi1, hi2⟩⟩
  · have HF := Lib.hid (show bothOk F G = false from hf)
    clear hf
    go_wp2
    go_ret2
    rw [HF.out, outM]
    exact NewSS2.nil b1
  · have HF := Lib.hid (show bothOk F G = true by simp [bothOk, hf, hg])
    obtain ⟨hm1, hl1⟩ := fam_bits hf
    obtain ⟨hm2, hl2⟩ := fam_bits hg
    have HE : Hid (eithM F G = msks F ++ msks G) := Lib.hid rfl
    have HM := Lib.hid (And.intro (HeapAt.made (w := w1)) (made_below (w := w1)))
    clear hf hg ha hb
    generalize msks F = K1 at *
    generalize msks G = K2 at *
    generalize eithM F G = M at *
    go_wp2
    go_loopw [27] (fun i wr => ∃ (k : Nat) (b : List Nat), k ≤ K1.length ∧ i = .int .i64 k ∧ b.length = k ∧ HeapAt wr w1.heap.size (w1.heap.size + 1) b ∧ Hid (b.Perm (K1.take k)) ∧ Below w1.heap.size w1 wr) (fun i _ => K1.length - (intOf i).toNat)
    case atStart => exact ⟨0, [], Nat.zero_le _, rfl, rfl, HM.out.1, (by show List.Perm _ _; simp), HM.out.2⟩
    case round =>
      clear HM
      obtain ⟨k, b, hk, rfl, hbk, hhp, hpm, hbel⟩ := hrel
      by_cases hlt : k < K1.length
      · obtain ⟨bb, off, m, rfl, hx, hc⟩ := (hi1.below hbel).at_ hlt
        have HX := Lib.hid hx
        have hbl : b.length ≤ 1000 := by omega
        clear hx
        go_wp2_with fail
        refine (add_any w1.heap.size (w1.heap.size + 1) m b _ hhp hbl).mono ?_
        rintro e w2 ⟨rfl, b', hhp', hperm, hbl', hb2⟩
        have HR := Lib.hid (show HeapAt w2 w1.heap.size (w1.heap.size + 1) b' ∧ b'.Perm (K1.take (k + 1)) ∧ Below w1.heap.size w1 w2 from
          ⟨hhp', by rw [take_n HX.out]; exact perm_snoc hperm hpm.out, hbel.trans hb2⟩)
        have hbl2 : b'.length = k + 1 := by omega
        clear hhp hhp' hpm hperm hbel hb2 hc
        go_wp2
        go_roundw
        case rel => exact ⟨k + 1, b', by omega, by go_num, hbl2, HR.out.1, HR.out.2.1, HR.out.2.2⟩
        case measure => simp [intOf]; omega
      · have hkl : k = K1.length := by omega
        subst hkl
        have HP1 := Lib.hid (show b.Perm K1 by have := hpm.out; rwa [List.take_length] at this)
        have H0 := Lib.hid (And.intro hhp hbel)
        clear hpm hhp hbel
        go_wp2
        go_loopw [37] (fun i wr => ∃ (k : Nat) (b : List Nat), k ≤ K2.length ∧ i = .int .i64 k ∧ b.length = K1.length + k ∧ HeapAt wr w1.heap.size (w1.heap.size + 1) b ∧ Hid (b.Perm (K1 ++ K2.take k)) ∧ Below w1.heap.size w1 wr) (fun i _ => K2.length - (intOf i).toNat)
        case atStart => exact ⟨0, b, Nat.zero_le _, rfl, by omega, H0.out.1, (by show List.Perm _ _; simpa using HP1.out), H0.out.2⟩
        case round =>
          clear H0 HP1 hbk
          obtain ⟨k, b, hk, rfl, hbk, hhp, hpm, hbel⟩ := hrel
          by_cases hlt : k < K2.length
          · obtain ⟨bb, off, m, rfl, hx, hc⟩ := (hi2.below hbel).at_ hlt
            have HX := Lib.hid hx
            have hbl : b.length ≤ 1000 := by omega
            clear hx
            go_wp2_with fail
            refine (add_any w1.heap.size (w1.heap.size + 1) m b _ hhp hbl).mono ?_
            rintro e w2 ⟨rfl, b', hhp', hperm, hbl', hb2⟩
            have HR := Lib.hid (show HeapAt w2 w1.heap.size (w1.heap.size + 1) b' ∧ b'.Perm (K1 ++ K2.take (k + 1)) ∧ Below w1.heap.size w1 w2 from
              ⟨hhp', by rw [take_n HX.out, ← List.append_assoc]; exact perm_snoc hperm hpm.out, hbel.trans hb2⟩)
            have hbl2 : b'.length = K1.length + (k + 1) := by omega
            clear hhp hhp' hpm hperm hbel hb2 hc
            go_wp2
            go_roundw
            case rel => exact ⟨k + 1, b', by omega, by go_num, hbl2, HR.out.1, HR.out.2.1, HR.out.2.2⟩
            case measure => simp [intOf]; omega
          · have hkl : k = K2.length := by omega
            subst hkl
            have HP := Lib.hid (show b.Perm M ∧ Msk M by
              have h1 := hpm.out
              rw [List.take_length, ← HE.out] at h1
              refine ⟨h1, ?_⟩
              rw [HE.out]
              intro q hq
              rcases List.mem_append.1 hq with h5 | h5
              · exact hm1 q h5
              · exact hm2 q h5)
            have hbl : b.length ≤ 1000 := by omega
            clear hpm
            go_wp2_with fail
            refine (minimal_any w1.heap.size (w1.heap.size + 1) M b _ hhp HP.out.1 HP.out.2 hbl).mono ?_
            rintro e w2 ⟨A3, c3, rfl, o3, b3⟩
            have hib := (IB.of_own o3).1
            have hml := mins_len M
            have hmm := mins_lt M
            have hb3 := below_step b1 (hbel.trans b3)
            clear o3 b3 hbel hhp
            go_wp2_with fail
            refine (lists_any A3 c3 _ _ hib hmm (by omega)).mono ?_
            rintro e w3 ⟨A4, c4, rfl, o4, b4⟩
            have HR := Lib.hid (show NewSS2 w (outM M (bothOk F G)) (bothOk F G) (.returned (.tuple #[.slice A4 (mems (mins M)).length c4, .bool true])) w3 by
              rw [HF.out, outM]
              exact ⟨A4, c4, rfl, o4.base hb3.size, below_step hb3 b4⟩)
            clear o4 b4 hib hb3
            go_wp2
            go_ret2
            exact HR.out

theorem flat_take {K1 K2 : List Nat} {k m : Nat} (h : K1[k]? = some m) : ((K1.take (k + 1)).flatMap fun a => K2.map fun b => a ||| b) = ((K1.take k).flatMap fun a => K2.map fun b => a ||| b) ++ K2.map fun b => m ||| b := by
  rw [take_n h]; simp [List.flatMap_append]
theorem flat_len (K1 K2 : List Nat) : (K1.flatMap fun a => K2.map fun b => a ||| b).length = K1.length * K2.length := by
  induction K1 with
  | nil => simp
  | cons a K1 ih => simp [List.flatMap_cons, ih, Nat.succ_mul]; omega
theorem or_lt {a b : Nat} (ha : a < 64) (hb : b < 64) : a ||| b < 64 := (or_two ha hb).2

set_option maxRecDepth 100000 in
set_option maxHeartbeats 1600000 in
theorem implBoth_any (A B : Option Addr) (c d : Nat) (F G : List (List Int)) (w : World) (ha : ISS w A F) (hb : ISS w B G) (hlf : F.length ≤ 1048576) (hlg : G.length ≤ 1048576) (hsf : Short F 1048576) (hsg : Short G 1048576) :
    Calls Try.prog 41 #[.slice A F.length c, .slice B G.length d] w (NewSS2 w (outM (bothM F G) (bothOk F G)) (bothOk F G)) := by
  go_enter Try.func41, Try.ntmps41
  go_wp2_with fail
  refine (familiesOf_any _ _ _ _ _ _ _ ha hb hlf hlg hsf hsg).mono ?_
  rintro e w1 ⟨b1, ⟨hf, rfl⟩ | ⟨hf, hg, A1, c1, A2, c2, rfl, hi1, hi2⟩⟩
  · have HF := Lib.hid (show bothOk F G = false from hf)
    clear hf
    go_wp2
    go_ret2
    rw [HF.out, outM]
    exact NewSS2.nil b1
  · have HF := Lib.hid (show bothOk F G = true by simp [bothOk, hf, hg])
    obtain ⟨hm1, hl1⟩ := fam_bits hf
    obtain ⟨hm2, hl2⟩ := fam_bits hg
    have HE : Hid (bothM F G = (msks F).flatMap fun a => (msks G).map fun b => a ||| b) := Lib.hid rfl
    have HM := Lib.hid (And.intro (HeapAt.made (w := w1)) (made_below (w := w1)))
    clear hf hg ha hb
    generalize msks F = K1 at *
    generalize msks G = K2 at *
    generalize bothM F G = M at *
    go_wp2
    go_loopw [27] (fun i wr => ∃ (k : Nat) (b : List Nat), k ≤ K1.length ∧ i = .int .i64 k ∧ HeapAt wr w1.heap.size (w1.heap.size + 1) b ∧ Hid (b.Perm ((K1.take k).flatMap fun a => K2.map fun b => a ||| b)) ∧ Below w1.heap.size w1 wr) (fun i _ => K1.length - (intOf i).toNat)
    case atStart => exact ⟨0, [], Nat.zero_le _, rfl, HM.out.1, (by show List.Perm _ _; simp), HM.out.2⟩
    case round =>
      clear HM
      obtain ⟨k, b, hk, rfl, hhp, hpm, hbel⟩ := hrel
      by_cases hlt : k < K1.length
      · obtain ⟨bb, off, m, rfl, hx, hc⟩ := (hi1.below hbel).at_ hlt
        have HX := Lib.hid hx
        have hm := hm1 m (List.mem_of_getElem? hx)
        have H0 := Lib.hid (And.intro hhp (And.intro hpm.out hbel))
        clear hx hhp hpm hbel
        go_wp2
        clear hc
        go_loopw [33] (fun i wr => ∃ (j : Nat) (b : List Nat), j ≤ K2.length ∧ i = .int .i64 j ∧ HeapAt wr w1.heap.size (w1.heap.size + 1) b ∧ Hid (b.Perm (((K1.take k).flatMap fun a => K2.map fun b => a ||| b) ++ (K2.take j).map fun b => m ||| b)) ∧ Below w1.heap.size w1 wr) (fun i _ => K2.length - (intOf i).toNat)
        case atStart => exact ⟨0, b, Nat.zero_le _, rfl, H0.out.1, (by show List.Perm _ _; simpa using H0.out.2.1), H0.out.2.2⟩
        case round =>
          clear H0
          obtain ⟨j, b, hj, rfl, hhp, hpm, hbel⟩ := hrel
          by_cases hjt : j < K2.length
          · obtain ⟨bb2, off2, m2, rfl, hx2, hc2⟩ := (hi2.below hbel).at_ hjt
            have HX2 := Lib.hid hx2
            have hm2' := hm2 m2 (List.mem_of_getElem? hx2)
            have hbl : b.length ≤ 1000 := by
              have h1 := hpm.out.length_eq
              rw [List.length_append, flat_len, List.length_map, List.length_take, List.length_take, Nat.min_eq_left (by omega), Nat.min_eq_left (by omega)] at h1
              have : k * K2.length ≤ 20 * 20 := Nat.mul_le_mul (by omega) hl2
              omega
            clear hx2
            go_wp2_with fail
            refine (union_bits m m2 _ hm hm2').mono ?_
            rintro e w' ⟨rfl, rfl⟩
            go_wp2_with fail
            refine (add_any w1.heap.size (w1.heap.size + 1) (m ||| m2) b _ hhp hbl).mono ?_
            rintro e w2 ⟨rfl, b', hhp', hperm, hbl', hb2⟩
            have HR := Lib.hid (show HeapAt w2 w1.heap.size (w1.heap.size + 1) b' ∧ b'.Perm (((K1.take k).flatMap fun a => K2.map fun b => a ||| b) ++ (K2.take (j + 1)).map fun b => m ||| b) ∧ Below w1.heap.size w1 w2 from
              ⟨hhp', by rw [take_n HX2.out, List.map_append, ← List.append_assoc]; exact perm_snoc hperm hpm.out, hbel.trans hb2⟩)
            clear hhp hhp' hpm hperm hbel hb2 hc2
            go_wp2
            go_roundw
            case rel => exact ⟨j + 1, b', by omega, by go_num, HR.out.1, HR.out.2.1, HR.out.2.2⟩
            case measure => simp [intOf]; omega
          · have hjl : j = K2.length := by omega
            subst hjl
            have HR := Lib.hid (show HeapAt wr w1.heap.size (w1.heap.size + 1) b ∧ b.Perm ((K1.take (k + 1)).flatMap fun a => K2.map fun b => a ||| b) ∧ Below w1.heap.size w1 wr from
              ⟨hhp, by rw [flat_take HX.out]; have := hpm.out; rwa [List.take_length] at this, hbel⟩)
            clear hhp hpm hbel
            go_wp2
            go_roundw
            case rel => exact ⟨k + 1, b, by omega, by go_num, HR.out.1, HR.out.2.1, HR.out.2.2⟩
            case measure => simp [intOf]; omega
      · have hkl : k = K1.length := by omega
        subst hkl
        have HP := Lib.hid (show b.Perm M ∧ Msk M by
          have h1 := hpm.out
          rw [List.take_length, ← HE.out] at h1
          refine ⟨h1, ?_⟩
          rw [HE.out]
          intro q hq
          obtain ⟨a, ha, h5⟩ := List.mem_flatMap.1 hq
          obtain ⟨b, hb, rfl⟩ := List.mem_map.1 h5
          exact or_lt (hm1 a ha) (hm2 b hb))
        have hbl : b.length ≤ 1000 := by
          have h1 := HP.out.1.length_eq
          rw [HE.out, flat_len] at h1
          have : K1.length * K2.length ≤ 20 * 20 := Nat.mul_le_mul hl1 hl2
          omega
        clear hpm
        go_wp2_with fail
        refine (minimal_any w1.heap.size (w1.heap.size + 1) M b _ hhp HP.out.1 HP.out.2 hbl).mono ?_
        rintro e w2 ⟨A3, c3, rfl, o3, b3⟩
        have hib := (IB.of_own o3).1
        have hml := mins_len M
        have hmm := mins_lt M
        have hb3 := below_step b1 (hbel.trans b3)
        clear o3 b3 hbel hhp
        go_wp2_with fail
        refine (lists_any A3 c3 _ _ hib hmm (by omega)).mono ?_
        rintro e w3 ⟨A4, c4, rfl, o4, b4⟩
        have HR := Lib.hid (show NewSS2 w (outM M (bothOk F G)) (bothOk F G) (.returned (.tuple #[.slice A4 (mems (mins M)).length c4, .bool true])) w3 by
          rw [HF.out, outM]
          exact ⟨A4, c4, rfl, o4.base hb3.size, below_step hb3 b4⟩)
        clear o4 b4 hib hb3
        go_wp2
        go_ret2
        exact HR.out
end Go.Proofs.Ytdanecbjmboehaa
