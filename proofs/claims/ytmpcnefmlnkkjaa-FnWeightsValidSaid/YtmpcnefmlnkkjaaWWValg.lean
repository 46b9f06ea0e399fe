/- The walk of the law that votes are bounded. -/
import Derived.Test.YtmpcnefmlnkkjaaWLawsg
import Derived.Test.YtmpcnefmlnkkjaaGc
namespace Go.Proofs.Ytmpcnefmlnkkjaa
open Go.RowKit

set_option maxRecDepth 100000 in
set_option maxHeartbeats 1600000 in
theorem drawWVal_any (A : Option Addr) (c : Nat) (l : List Int) (w : World) (ha : BL w A l) (hc : l.length ≤ c) (hm : l.length ≤ maxLen) (hmc : c ≤ maxLen) :
    Calls Try.prog 42 #[.slice A l.length c] w fun e w' => ∃ (v : List Int) (A : Option Addr) (c : Nat), v.length ≤ 8 ∧ e = .returned (.slice A v.length c) ∧ IL w' A v ∧ Below w.heap.size w w' := by
  obtain ⟨i0, hi0, hz0, hz1, hz2⟩ := info_parts int_info
  go_enter Try.func42, Try.ntmps42
  go_wp2_with fail
  refine (l6Open_any _ _ _ _ ha hc hm hmc).mono ?_
  rintro e w1 ⟨rfl, hr1, b1⟩
  have hlt := hr1.lt
  go_wp2_with fail
  refine (l91Weights_any _ _ _ hr1 (by omega)).mono ?_
  rintro e w2 ⟨a, A2, c2, q2, ha7, rfl, o2, hr2, hq2, g2⟩
  clear hr1
  go_wp2_with fail
  refine (pickX _ _ 4 _ hr2 (by omega) (by omega) (by omega)).mono ?_
  rintro e w3 ⟨y, y0, y1, rfl, hr3, g3⟩
  have o3 := kept_far o2 g3 hlt
  have gr3 := grown_trans g2 g3
  clear o2 hr2 g2 g3
  by_cases hy : y = 0
  · have hyb : (y == 0) = true := by simpa using hy
    clear hy
    go_wp2_with fail
    refine (pickX _ _ 13 _ hr3 (by omega) (by omega) (by omega)).mono ?_
    rintro e w4 ⟨z, z0, z1, rfl, hr4, g4⟩
    have o4 := kept_far o3 g4 hlt
    have gr4 := grown_trans gr3 g4
    have hg4s := gr4.size
    have hv : ∀ k, (Value.slice A2 a.length c2).ownBlock = some k → w1.heap.size ≤ k := fun k hk => (o4.lt k hk).1
    have hzw : IntKind.i64.wrap (z - 2) = z - 2 := by rw [IntKind.wrap_i64]; omega
    clear o3 hr3 gr3 g4
    go_wp2_with (at_builtin; refine wpList_append_own _ rfl (.tmp 12) (.tmp 16) 28 rfl w1.heap.size 3 i0 (.int .i64 0) 1 8 Try.underlying28 hi0 hz0 hz1 hz2 rfl (by decide) _ _ _ rfl (o4.alloc _) ⟨w4.heap.size, 0, none⟩ 1 1 [.int .i64 (z - 2)] rfl rfl (cell_one_new _ _ _) (ints_oneCell .i64 [(z - 2 : Int)]) (by unfold maxLen; omega) (by omega) (by simp; omega) ?_)
    intro v' w5 ho5 hg5 _
    obtain ⟨A5, c5, rfl, ho6, hr6, hg6⟩ := step_app hlt gr4 hr4 hv ho5 hg5
    have D := Lib.hid (show ∃ (v : List Int) (A : Option Addr) (c : Nat), v.length ≤ 8 ∧ (Ending.returned (.slice A5 (a ++ [z - 2]).length c5)) = .returned (.slice A v.length c) ∧ IL w5 A v ∧ Below w.heap.size w w5 from ⟨a ++ [z - 2], A5, c5, by simp; omega, rfl, (IL.of_own ho6).1, rdV b1 hg6⟩)
    clear ho5 hg5 ho6 hr6 hg6 o4 hr4 gr4
    go_wp2
    go_ret
    exact D.out
  · have hyb : (y == 0) = false := by simpa using hy
    have D := Lib.hid (show ∃ (v : List Int) (A : Option Addr) (c : Nat), v.length ≤ 8 ∧ (Ending.returned (.slice A2 a.length c2)) = .returned (.slice A v.length c) ∧ IL w3 A v ∧ Below w.heap.size w w3 from ⟨a, A2, c2, by omega, rfl, (IL.of_own o3).1, rdV b1 gr3⟩)
    clear hy o3 hr3 gr3
    go_wp2
    go_ret
    exact D.out

theorem w_set {v : List Int} (h : wOk v = true) {k : Nat} (hk : k < v.length) : wOk (v.set k 0) = true ∧ wOk (v.set k (-1)) = false ∧ wOk (v.set k 10) = false ∧ wOk [] = false := by
  obtain ⟨h1, h2, h3⟩ := wOk_iff.1 h
  refine ⟨wOk_iff.2 ⟨by simpa using h1, by simpa using h2, fun x hx => ?_⟩, ?_, ?_, rfl⟩
  · rcases List.mem_or_eq_of_mem_set hx with h4 | rfl
    · exact h3 x h4
    · omega
  · cases h5 : wOk (v.set k (-1))
    · rfl
    · have := (wOk_iff.1 h5).2.2 (-1) (List.mem_set hk _)
      omega
  · cases h5 : wOk (v.set k 10)
    · rfl
    · have := (wOk_iff.1 h5).2.2 10 (List.mem_set hk _)
      omega
theorem map_set' (v : List Int) (k : Nat) (x : Int) : (v.set k x).map (Value.int .i64) = (v.map (Value.int .i64)).set k (.int .i64 x) := List.map_set
theorem wv_set (A : Option Addr) (c : Nat) (v : List Int) (k : Nat) (x : Int) (b : Bool) (W : World) (hi : IL W A (v.set k x)) (h : wOk (v.set k x) = b) (hl : v.length ≤ 1048576) :
    Calls Try.prog 43 #[.slice A v.length c] W fun e w' => e = .returned (.bool b) ∧ Below W.heap.size W w' := by
  have := implWV_any A c (v.set k x) W hi (by simpa using hl)
  rwa [List.length_set, h] at this
theorem il_nil (w : World) (A : Option Addr) : IL w A [] := .inl rfl
theorem il_cells {w : World} {b off : Nat} {l : List Int} (h : ∀ j x, l[j]? = some x → w.cell? ⟨b, off + j, none⟩ = some (.int .i64 x)) : ∀ (j : Nat) u, (l.map (Value.int .i64))[j]? = some u → w.cell? ((⟨b, off, none⟩ : Addr).add j) = some u := by
  intro j u hu
  rw [List.getElem?_map] at hu
  obtain ⟨x, hx, rfl⟩ := Option.map_eq_some_iff.1 hu
  rw [Addr.add_lit]
  exact h j x hx

set_option maxRecDepth 100000 in
set_option maxHeartbeats 3200000 in
theorem walkWVal (A B : Option Addr) (c d : Nat) (l m : List Int) (w : World) (ha : BL w A l) (hc : l.length ≤ c) (hmc : c ≤ maxLen) (hd : m.length ≤ d) (hmd : d ≤ maxLen) :
    Calls Try.prog 11 #[.slice A l.length c, .slice B m.length d] w fun e w' => e = .returned (.bool true) ∧ Below w.heap.size w w' := by
  obtain ⟨i0, hi0, hz0, hz1, hz2⟩ := info_parts int_info
  have hm := Nat.le_trans hc hmc
  have hmm := Nat.le_trans hd hmd
  have hm1 := hm
  have hm2 := hmm
  unfold maxLen at hm1 hm2
  by_cases hl : l.length ≤ 1048576
  · by_cases hl2 : m.length ≤ 1048576
    · obtain ⟨ml, hml⟩ : ∃ ml, ml = m.length := ⟨_, rfl⟩
      rw [← hml] at hl2 hm2 ⊢
      clear hml hmm hd hmd
      go_enter Try.func11, Try.ntmps11
      go_wp2_with fail
      refine (drawWVal_any _ _ _ _ ha hc hm hmc).mono ?_
      rintro e w1 ⟨v, A1, c1, hv8, rfl, i1, B1⟩
      clear ha hm hc hmc
      have hvl : v.length ≤ 1048576 := by omega
      go_wp2_with fail
      refine (implWV_any _ _ _ _ i1 hvl).mono ?_
      rintro e w2 ⟨rfl, b2⟩
      have i2 := i1.below b2
      have B2 := below_step B1 b2
      clear i1 B1 b2
      go_wp2_with fail
      refine (specWV_any _ _ _ _ i2 hvl).mono ?_
      rintro e w3 ⟨rfl, rfl⟩
      generalize hok : wOk v = ok at *
      cases ok
      · have HB := Lib.hid hok
        clear hok
        go_wp2_with fail
        refine (specWV_any _ _ _ _ i2 hvl).mono ?_
        rw [HB.out]
        rintro e w3 ⟨rfl, rfl⟩
        go_wp2
        go_ret
        exact ⟨rfl, B2⟩
      · have hv1 : 1 ≤ v.length := (wOk_iff.1 hok).1
        have HW := Lib.hid (fun k hk => w_set hok (k := k) hk)
        clear hok
        obtain ⟨k, hk⟩ : ∃ k, k = ml % v.length := ⟨_, rfl⟩
        have hkl : k < v.length := by rw [hk]; exact Nat.mod_lt _ hv1
        have hk1 : Int.tmod (ml : Int) (v.length : Int) = (k : Int) := by rw [Int.tmod_eq_emod_of_nonneg (by omega), hk]; rfl
        have hk2 : (ml : Int) % (v.length : Int) = (k : Int) := by rw [hk]; rfl
        have hv0 : ¬ ((v.length : Int) = 0) := by omega
        have hv0n : v.length ≠ 0 := by omega
        clear hk
        have HW2 := Lib.hid (HW.out k hkl)
        clear HW
        have hki : (0 : Int) ≤ (k : Int) := by omega
        have hki2 : (k : Int) < (v.length : Int) := by omega
        rcases i2 with hn | ⟨b, off, rfl, hlt, hcc⟩
        · rw [hn] at hv1; simp at hv1
        have i2 : IL w2 (some ⟨b, off, none⟩) v := .inr ⟨b, off, rfl, hlt, hcc⟩
        clear hlt hcc
        have stepc : ∀ (W : World) (hi : IL W (some ⟨b, off, none⟩) v), ∀ (j : Nat) u, (v.map (Value.int .i64))[j]? = some u → W.cell? ((⟨b, off, none⟩ : Addr).add j) = some u := fun W hi => by
          rcases hi with hn | ⟨b', off', e, _, hcc⟩
          · rw [hn]; simp
          · injection e with e; injection e with e1 e2; subst e1 e2; exact il_cells hcc
        have SC := Lib.hid stepc
        clear stepc
        have T0 := Lib.hid (fun (A : Option Addr) (c : Nat) (W : World) (hi : IL W A (v.set k 0)) => wv_set A c v k 0 true W hi HW2.out.1 hvl)
        have T1 := Lib.hid (fun (A : Option Addr) (c : Nat) (W : World) (hi : IL W A (v.set k (-1))) => wv_set A c v k (-1) false W hi HW2.out.2.1 hvl)
        have T2 := Lib.hid (fun (A : Option Addr) (c : Nat) (W : World) (hi : IL W A (v.set k 10)) => wv_set A c v k 10 false W hi HW2.out.2.2.1 hvl)
        have T3 := Lib.hid (fun (W : World) => implWV_any none 0 [] W (il_nil _ _) (by simp))
        rw [HW2.out.2.2.2] at T3
        clear HW2
        have hb03 : Below w2.heap.size w2 (w2.alloc (.cells #[] 3)) := (Below.refl _ w2).alloc (Nat.le_refl _) _
        have ho03 : (w2.alloc (.cells #[] 3)).ownsRow w2.heap.size 3 1 (.slice (some ⟨w2.heap.size, 0, none⟩) 0 0) 0 [] := World.ownsRow_made w2 #[] 0 (Nat.le_refl _) (by unfold maxLen; omega) (by simp)
        have hbs3 : w2.heap.size ≤ (w2.alloc (.cells #[] 3)).heap.size := hb03.size
        have hic3 := SC.out _ (i2.below hb03)
        go_wp2_with (at_builtin; refine wpList_append_own _ rfl (.tmp 40) (.tmp 41) 28 rfl w2.heap.size 3 i0 (.int .i64 0) 1 8 Try.underlying28 hi0 hz0 hz1 hz2 rfl (by decide) _ _ _ rfl ho03 ⟨b, off, none⟩ v.length c1 (v.map (Value.int .i64)) rfl (by simp) hic3 (ints_oneCell .i64 v) (by unfold maxLen; omega) (by omega) hbs3 ?_)
        intro v3 w3 ho3 hg3 _
        have hb3 : Below w2.heap.size w2 w3 := hb03.grown hg3 hb03.size (fun k hk => by cases hk; exact Nat.le_of_eq rfl)
        obtain ⟨A3, c3, rfl⟩ := own_slice ho3
        clear hg3 hb03 ho03 hic3 hbs3
        obtain ⟨g3, rfl, hbg3, hgl3⟩ := own_form ho3 (by omega)
        obtain ⟨u3, hu3⟩ : ∃ u, w3.cell? ⟨g3, k, none⟩ = some u := ⟨_, (ho3.cellAt k (by omega)).trans (List.getElem?_eq_getElem (by simp; omega))⟩
        have hfr3 := ho3.frozenAt k
        have hos3 := (ho3.stored k (.int .i64 0)).1
        have hbs3 := hb3.setCell (p := ⟨g3, k, none⟩) hbg3 (.int .i64 0)
        have hsz3 : (w3.setCell ⟨g3, k, none⟩ (.int .i64 0)).heap.size = w3.heap.size := by simp [World.setCell]
        rw [← map_set'] at hos3
        have x3 := (IL.of_own hos3).1
        clear ho3 hb3 hos3 hgl3 hbg3
        have i3 := i2.below hbs3
        have B3 := below_step B2 hbs3
        clear i2 B2 hbs3
        have hb04 : Below (w3.setCell ⟨g3, k, none⟩ (.int .i64 0)).heap.size (w3.setCell ⟨g3, k, none⟩ (.int .i64 0)) ((w3.setCell ⟨g3, k, none⟩ (.int .i64 0)).alloc (.cells #[] 3)) := (Below.refl _ (w3.setCell ⟨g3, k, none⟩ (.int .i64 0))).alloc (Nat.le_refl _) _
        have ho04 : ((w3.setCell ⟨g3, k, none⟩ (.int .i64 0)).alloc (.cells #[] 3)).ownsRow (w3.setCell ⟨g3, k, none⟩ (.int .i64 0)).heap.size 3 1 (.slice (some ⟨(w3.setCell ⟨g3, k, none⟩ (.int .i64 0)).heap.size, 0, none⟩) 0 0) 0 [] := World.ownsRow_made (w3.setCell ⟨g3, k, none⟩ (.int .i64 0)) #[] 0 (Nat.le_refl _) (by unfold maxLen; omega) (by simp)
        have hbs4 : (w3.setCell ⟨g3, k, none⟩ (.int .i64 0)).heap.size ≤ ((w3.setCell ⟨g3, k, none⟩ (.int .i64 0)).alloc (.cells #[] 3)).heap.size := hb04.size
        have hic4 := SC.out _ (i3.below hb04)
        rw [hsz3] at ho04 hbs4
        go_wp2_with (at_builtin; refine wpList_append_own _ rfl (.tmp 46) (.tmp 47) 28 rfl w3.heap.size 3 i0 (.int .i64 0) 1 8 Try.underlying28 hi0 hz0 hz1 hz2 rfl (by decide) _ _ _ rfl ho04 ⟨b, off, none⟩ v.length c1 (v.map (Value.int .i64)) rfl (by simp) hic4 (ints_oneCell .i64 v) (by unfold maxLen; omega) (by omega) hbs4 ?_)
        intro v4 w4 ho4 hg4 _
        have hb4 : Below (w3.setCell ⟨g3, k, none⟩ (.int .i64 0)).heap.size (w3.setCell ⟨g3, k, none⟩ (.int .i64 0)) w4 := hb04.grown hg4 hb04.size (fun k hk => by cases hk; exact Nat.le_of_eq hsz3)
        obtain ⟨A4, c4, rfl⟩ := own_slice ho4
        clear hg4 hb04 ho04 hic4 hbs4
        obtain ⟨g4, rfl, hbg4, hgl4⟩ := own_form ho4 (by omega)
        rw [← hsz3] at hbg4
        obtain ⟨u4, hu4⟩ : ∃ u, w4.cell? ⟨g4, k, none⟩ = some u := ⟨_, (ho4.cellAt k (by omega)).trans (List.getElem?_eq_getElem (by simp; omega))⟩
        have hfr4 := ho4.frozenAt k
        have hos4 := (ho4.stored k (.int .i64 (-1))).1
        have hbs4 := hb4.setCell (p := ⟨g4, k, none⟩) hbg4 (.int .i64 (-1))
        have hsz4 : (w4.setCell ⟨g4, k, none⟩ (.int .i64 (-1))).heap.size = w4.heap.size := by simp [World.setCell]
        rw [← map_set'] at hos4
        have x4 := (IL.of_own hos4).1
        clear ho4 hb4 hos4 hgl4 hbg4
        have i4 := i3.below hbs4
        have x34 := x3.below hbs4
        have B4 := below_step B3 hbs4
        clear i3 B3 x3 hbs4 hu3 hfr3 hsz3
        have hb05 : Below (w4.setCell ⟨g4, k, none⟩ (.int .i64 (-1))).heap.size (w4.setCell ⟨g4, k, none⟩ (.int .i64 (-1))) ((w4.setCell ⟨g4, k, none⟩ (.int .i64 (-1))).alloc (.cells #[] 3)) := (Below.refl _ (w4.setCell ⟨g4, k, none⟩ (.int .i64 (-1)))).alloc (Nat.le_refl _) _
        have ho05 : ((w4.setCell ⟨g4, k, none⟩ (.int .i64 (-1))).alloc (.cells #[] 3)).ownsRow (w4.setCell ⟨g4, k, none⟩ (.int .i64 (-1))).heap.size 3 1 (.slice (some ⟨(w4.setCell ⟨g4, k, none⟩ (.int .i64 (-1))).heap.size, 0, none⟩) 0 0) 0 [] := World.ownsRow_made (w4.setCell ⟨g4, k, none⟩ (.int .i64 (-1))) #[] 0 (Nat.le_refl _) (by unfold maxLen; omega) (by simp)
        have hbs5 : (w4.setCell ⟨g4, k, none⟩ (.int .i64 (-1))).heap.size ≤ ((w4.setCell ⟨g4, k, none⟩ (.int .i64 (-1))).alloc (.cells #[] 3)).heap.size := hb05.size
        have hic5 := SC.out _ (i4.below hb05)
        rw [hsz4] at ho05 hbs5
        go_wp2_with (at_builtin; refine wpList_append_own _ rfl (.tmp 52) (.tmp 53) 28 rfl w4.heap.size 3 i0 (.int .i64 0) 1 8 Try.underlying28 hi0 hz0 hz1 hz2 rfl (by decide) _ _ _ rfl ho05 ⟨b, off, none⟩ v.length c1 (v.map (Value.int .i64)) rfl (by simp) hic5 (ints_oneCell .i64 v) (by unfold maxLen; omega) (by omega) hbs5 ?_)
        intro v5 w5 ho5 hg5 _
        have hb5 : Below (w4.setCell ⟨g4, k, none⟩ (.int .i64 (-1))).heap.size (w4.setCell ⟨g4, k, none⟩ (.int .i64 (-1))) w5 := hb05.grown hg5 hb05.size (fun k hk => by cases hk; exact Nat.le_of_eq hsz4)
        obtain ⟨A5, c5, rfl⟩ := own_slice ho5
        clear hg5 hb05 ho05 hic5 hbs5
        obtain ⟨g5, rfl, hbg5, hgl5⟩ := own_form ho5 (by omega)
        rw [← hsz4] at hbg5
        obtain ⟨u5, hu5⟩ : ∃ u, w5.cell? ⟨g5, k, none⟩ = some u := ⟨_, (ho5.cellAt k (by omega)).trans (List.getElem?_eq_getElem (by simp; omega))⟩
        have hfr5 := ho5.frozenAt k
        have hos5 := (ho5.stored k (.int .i64 10)).1
        have hbs5 := hb5.setCell (p := ⟨g5, k, none⟩) hbg5 (.int .i64 10)
        have hsz5 : (w5.setCell ⟨g5, k, none⟩ (.int .i64 10)).heap.size = w5.heap.size := by simp [World.setCell]
        rw [← map_set'] at hos5
        have x5 := (IL.of_own hos5).1
        clear ho5 hb5 hos5 hgl5 hbg5
        have x35 := x34.below hbs5
        have x45 := x4.below hbs5
        have B5 := below_step B4 hbs5
        clear i4 B4 x34 x4 hbs5 SC hu4 hfr4 hsz4
        go_wp2_with fail
        refine (T0.out _ _ _ x35).mono ?_
        rintro e w6 ⟨rfl, b6⟩
        have x46 := x45.below b6
        have x56 := x5.below b6
        have B6 := below_step B5 b6
        clear x35 x45 x5 B5 b6 T0
        go_wp2_with fail
        refine (T1.out _ _ _ x46).mono ?_
        rintro e w7 ⟨rfl, b7⟩
        have x57 := x56.below b7
        have B7 := below_step B6 b7
        clear x46 x56 B6 b7 T1
        go_wp2_with fail
        refine (T2.out _ _ _ x57).mono ?_
        rintro e w8 ⟨rfl, b8⟩
        have B8 := below_step B7 b8
        clear x57 B7 b8 T2
        go_wp2_with fail
        refine (T3.out _).mono ?_
        rintro e w9 ⟨rfl, b9⟩
        have B9 := below_step B8 b9
        clear B8 b9 T3
        go_wp2
        go_ret
        exact ⟨rfl, B9⟩
    · go_enter Try.func11, Try.ntmps11
      go_wp2_with fail
      go_ret
      exact ⟨rfl, Below.refl _ _⟩
  · go_enter Try.func11, Try.ntmps11
    go_wp2_with fail
    go_ret
    exact ⟨rfl, Below.refl _ _⟩
end Go.Proofs.Ytmpcnefmlnkkjaa
