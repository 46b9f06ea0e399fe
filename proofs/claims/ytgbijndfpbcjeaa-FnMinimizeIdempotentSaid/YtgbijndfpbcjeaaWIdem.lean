/- The walk of the law that minimizing a quorum system changes nothing. -/
import Derived.Test.YtgbijndfpbcjeaaDrawO
import Derived.Test.YtgbijndfpbcjeaaWMin
namespace Go.Proofs.Ytgbijndfpbcjeaa
open Go.RowKit

theorem minIn_iff {F : List (List Int)} : minIn F = true ↔ F.length ≤ 64 ∧ ∀ l ∈ F, vld l = true ∧ 0 < msk l := by
  simp [minIn]
theorem minOut_t {F : List (List Int)} (h : minIn F = true) : minOut F = mems (mins (msks F)) := by simp [minOut, h]
theorem min_idem {F : List (List Int)} (h : minIn F = true) : minIn (minOut F) = true ∧ minOut (minOut F) = minOut F := by
  obtain ⟨_, h2⟩ := minIn_iff.1 h
  have hM : Msk (msks F) := msks_msk fun l hl => (h2 l hl).1
  have h3 : minIn (minOut F) = true := by
    rw [minOut_t h]
    refine minIn_iff.2 ⟨by rw [mems_len]; exact mins_len _, fun l hl => ?_⟩
    obtain ⟨m, hm, rfl⟩ := List.mem_map.1 hl
    have hm6 := mins_lt _ m hm
    obtain ⟨l', hl', e⟩ := List.mem_map.1 ((mem_mins hM).1 hm).1
    refine ⟨vld_mem hm6, ?_⟩
    rw [msk_mem hm6, ← e]
    exact (h2 l' hl').2
  refine ⟨h3, ?_⟩
  rw [minOut_t h3, minOut_t h, msks_mems (mins_lt _), mins_mins hM]
theorem min_same {F G : List (List Int)} (h : minIn F = true) (hG : ∀ l, l ∈ G ↔ l ∈ F) (hl : G.length ≤ 64) : minIn G = true ∧ minOut G = minOut F := by
  obtain ⟨_, h2⟩ := minIn_iff.1 h
  have h3 : minIn G = true := minIn_iff.2 ⟨hl, fun l hl => h2 l ((hG l).1 hl)⟩
  refine ⟨h3, ?_⟩
  rw [minOut_t h3, minOut_t h, mins_same (S := msks G) (T := msks F)]
  intro m
  unfold msks
  rw [List.mem_map, List.mem_map]
  exact ⟨fun ⟨l, h4, h5⟩ => ⟨l, (hG l).1 h4, h5⟩, fun ⟨l, h4, h5⟩ => ⟨l, (hG l).2 h4, h5⟩⟩
theorem back_mem {F G : List (List Int)} {m : Nat} {l : List Int} (hx : F[m]? = some l) (h : ∀ a, a ∈ G ↔ a ∈ F.drop (m + 1)) : ∀ a, a ∈ G ++ [l, l] ↔ a ∈ F.drop m := by
  intro a
  rw [drop_l hx, List.mem_append, List.mem_cons, h a]
  simp
  constructor
  · rintro (h1 | h1)
    · exact .inr h1
    · exact .inl h1
  · rintro (h1 | h1)
    · exact .inr h1
    · exact .inl h1

/-- The values of a row of slices read as lists. -/
def Reads (w : World) (G : List (List Int)) (xs : List Value) : Prop := xs.length = G.length ∧ ∀ (j : Nat) l, G[j]? = some l → ∃ B d, xs[j]? = some (.slice B l.length d) ∧ IL w B l
theorem Reads.below {w w' : World} {G : List (List Int)} {xs : List Value} (h : Reads w G xs) (hb : Below w.heap.size w w') : Reads w' G xs :=
  ⟨h.1, fun j l hl => by obtain ⟨B, d, h1, h2⟩ := h.2 j l hl; exact ⟨B, d, h1, h2.below hb⟩⟩
theorem Reads.two {w : World} {G : List (List Int)} {xs : List Value} {l : List Int} {B : Option Addr} {d : Nat} (h : Reads w G xs) (hl : IL w B l) : Reads w (G ++ [l, l]) (xs ++ [.slice B l.length d, .slice B l.length d]) := by
  refine ⟨by simp [h.1], fun j a ha => ?_⟩
  rcases Nat.lt_or_ge j G.length with hj | hj
  · rw [List.getElem?_append_left hj] at ha
    obtain ⟨B', d', h1, h2⟩ := h.2 j a ha
    exact ⟨B', d', by rw [List.getElem?_append_left (by rw [h.1]; exact hj)]; exact h1, h2⟩
  · rw [List.getElem?_append_right hj] at ha
    rw [List.getElem?_append_right (by rw [h.1]; exact hj), h.1]
    generalize j - G.length = i at *
    have : i = 0 ∨ i = 1 := by
      have := (List.getElem?_eq_some_iff.1 ha).1
      simp at this
      omega
    rcases this with rfl | rfl
    · simp at ha; subst ha; exact ⟨B, d, rfl, hl⟩
    · simp at ha; subst ha; exact ⟨B, d, rfl, hl⟩
theorem two_oneCell (A : Option Addr) (n c : Nat) : ∀ u ∈ [Value.slice A n c, Value.slice A n c], u.oneCell' = true := by
  intro u hu
  simp at hu
  subst hu
  rfl

set_option maxRecDepth 100000 in
set_option maxHeartbeats 6400000 in
theorem walkIdem (A : Option Addr) (c : Nat) (l : List Int) (w : World) (ha : BL w A l) (hc : l.length ≤ c) (hm : l.length ≤ maxLen) (hmc : c ≤ maxLen) :
    Calls Try.prog 3 #[.slice A l.length c] w fun e w' => e = .returned (.bool true) ∧ Below w.heap.size w w' := by
  obtain ⟨i0, hi0, hz0, hz1, hz2⟩ := info_parts slice_info
  have hm' := hm
  unfold maxLen at hm'
  by_cases hl : l.length ≤ 1048576
  · go_enter Try.func3, Try.ntmps3
    go_wp2_with fail
    refine (drawMin_any _ _ _ _ ha hc hm hmc).mono ?_
    rintro e w1 ⟨F, A1, c1, hF, hS, rfl, i1, B1⟩
    clear ha hm
    have hFl : F.length ≤ 1048576 := by omega
    have hFs : Short F 1048576 := fun x hx => Nat.le_trans (hS x hx) (by omega)
    have hO := minOut_len F
    have sO := minOut_short F
    go_wp2_with fail
    refine (specMin_any _ _ _ _ i1 hFl hFs).mono ?_
    rintro e w2 ⟨A2, c2, rfl, OW, b2⟩
    have i2 := i1.below b2
    have B2 := below_step B1 b2
    clear i1 B1 b2
    go_wp2_with fail
    refine (implMin_any _ _ _ _ i2 hFl hFs).mono ?_
    rintro e w3 ⟨A3, c3, rfl, OG, b3⟩
    have i3 := (OW.below b3).iss
    have j3 := OG.iss
    have k3 := i2.below b3
    have B3 := below_step B2 b3
    clear i2 B2 b3 OW OG
    have HI := Lib.hid (And.intro (@min_idem F) (fun G => @min_same F G))
    generalize hok : minIn F = ok at *
    cases ok
    · clear HI
      go_wp2_with fail
      refine (sameSets_yes _ _ _ _ _ _ j3 i3 (by omega) sO).mono ?_
      rintro e w4 ⟨rfl, d4⟩
      have B4 := below_step B3 d4.below
      have i4 := i3.below d4.below
      have j4 := j3.below d4.below
      clear B3 i3 j3 d4
      go_wp2_with fail
      refine (sameSets_yes _ _ _ _ _ _ j4 i4 (by omega) sO).mono ?_
      rintro e w5 ⟨rfl, d5⟩
      have B5 := below_step B4 d5.below
      clear B4 i4 j4 d5
      go_wp2
      go_ret
      exact ⟨rfl, B5⟩
    · have H1 := Lib.hid (HI.out.1 rfl)
      have H2 := Lib.hid (fun G => HI.out.2 G rfl)
      clear HI hok
      generalize minOut F = M at *
      go_wp2_with fail
      refine (sameSets_yes _ _ _ _ _ _ j3 i3 (by omega) sO).mono ?_
      rintro e w4 ⟨rfl, d4⟩
      have B4 := below_step B3 d4.below
      have j4 := j3.below d4.below
      have k4 := k3.below d4.below
      clear B3 i3 j3 d4 k3
      have hbx : Below w4.heap.size w4 (w4.alloc (.cells #[] 28)) := (Below.refl _ w4).alloc (Nat.le_refl _) _
      have hx0 : (w4.alloc (.cells #[] 28)).ownsRow w4.heap.size 28 1 (.slice (some ⟨w4.heap.size, 0, none⟩) 0 0) 0 [] := World.ownsRow_made w4 #[] 0 (Nat.le_refl _) (by unfold maxLen; omega) (by simp)
      have H0 := Lib.hid (And.intro hx0 hbx)
      clear hbx hx0
      have hlw : IntKind.i64.wrap ((F.length : Int) - 1) = (F.length : Int) - 1 := by rw [IntKind.wrap_i64]; omega
      go_wp2
      go_loopw [8, 9] (fun v i wr => ∃ (m : Nat) (G : List (List Int)) (xs : List Value) (A5 : Option Addr) (c5 : Nat), m ≤ F.length ∧ i = .int .i64 ((m : Int) - 1) ∧ v = .slice A5 G.length c5 ∧ Hid (G.length = 2 * (F.length - m)) ∧ G.length ≤ 10 ∧ Hid (∀ a, a ∈ G ↔ a ∈ F.drop m) ∧ wr.ownsRow w4.heap.size 28 1 (.slice A5 G.length c5) G.length xs ∧ Hid (Reads w4 G xs) ∧ Below w4.heap.size w4 wr) (fun _ i _ => (intOf i + 1).toNat)
      case atStart => exact ⟨F.length, [], [], _, _, Nat.le_refl _, rfl, rfl, (by show _ = _; simp), by simp, (by show ∀ _, _; simp), H0.out.1, ⟨rfl, by simp⟩, H0.out.2⟩
      case round =>
        clear H0 hlw
        obtain ⟨m, G, xs, A5, c5, hm5, rfl, rfl, hGl, hG10, hGm, hown, hrd, hbel⟩ := hrel
        cases m with
        | succ m =>
          obtain ⟨b1, off1, p, P1, d1, e1, hx1, hc4, hil1⟩ := k4.at_ (k := m) (by omega)
          subst e1
          have hc1 := (hbel.cell (p := ⟨b1, off1 + m, none⟩) (World.block_lt_of_cell? w4 _ hc4)).trans hc4
          have HG2 := Lib.hid (back_mem hx1 hGm.out)
          have HR2 := Lib.hid (hrd.out.two (d := d1) hil1)
          have hmi : ((m + 1 : Nat) : Int) - 1 = (m : Int) := by omega
          have hmi0 : (0 : Int) ≤ (m : Int) := by omega
          have hmi1 : (m : Int) < (F.length : Int) := by omega
          have h63 : G.length + 2 ≤ maxLen := by unfold maxLen; omega
          have hby : (G.length + 2) * 24 ≤ 140737488355328 := by omega
          have hsw := hbel.size
          have hsw2 : w4.heap.size ≤ (wr.alloc (.cells #[.slice P1 p.length d1, .slice P1 p.length d1] 28)).drew.heap.size := by simp; omega
          clear hx1 hGm hrd
          go_wp2_with fail
          go_region_law (first
            | (refine step_append_own _ (by rfl) (.tmp 58) (.tmp 67) 23 (by rfl) w4.heap.size 28 i0 (.slice none 0 0) 1 24 Try.underlying23 hi0 hz0 hz1 hz2 rfl (by decide) (.slice A5 G.length c5) G.length xs (by rfl) (hown.alloc _) ⟨wr.heap.size, 0, none⟩ 2 2 [.slice P1 p.length d1, .slice P1 p.length d1] (by rfl) (by rfl) (World.news_of_block (cs := #[.slice P1 p.length d1, .slice P1 p.length d1]) (t := 28) (fr := (0, 0)) (heap_alloc_new wr _)) (two_oneCell _ _ _) h63 hby hsw2 ?_; intro v3 w5 hown3 hgrow3)
            | fail)
          all_goals have R := Lib.hid (show ∃ A6 c6 ys, v3 = Value.slice A6 (G ++ [p, p]).length c6 ∧ w5.ownsRow w4.heap.size 28 1 (.slice A6 (G ++ [p, p]).length c6) (G ++ [p, p]).length ys ∧ Reads w4 (G ++ [p, p]) ys ∧ Below w4.heap.size w4 w5 by
            have h3 : w5.ownsRow w4.heap.size 28 1 v3 (G ++ [p, p]).length (xs ++ [.slice P1 p.length d1, .slice P1 p.length d1]) := by simpa using hown3
            obtain ⟨A6, c6, h4⟩ := own_slice h3
            have hA : Below wr.heap.size wr (wr.alloc (.cells #[.slice P1 p.length d1, .slice P1 p.length d1] 28)).drew := ((Below.refl _ wr).alloc (Nat.le_refl _) _).drew
            have hB := below_step hbel hA
            exact ⟨A6, c6, _, h4, by rw [← h4]; exact h3, HR2.out, hB.grown hgrow3 hB.size (fun k hk => (hown.lt k hk).1)⟩)
          all_goals have hGl2 : (G ++ [p, p]).length = G.length + 2 := by simp
          all_goals have HGL := Lib.hid (show (G ++ [p, p]).length = 2 * (F.length - m) by have := hGl.out; rw [hGl2]; omega)
          all_goals obtain ⟨A6, c6, ys, rfl, R2⟩ := R.out
          all_goals have HR3 := Lib.hid R2
          all_goals clear R R2 hown3 hgrow3 hown hbel hc1 hc4 hil1 HR2 hGl
          all_goals have hG2 : (G ++ [p, p]).length ≤ 10 := by rw [HGL.out]; omega
          all_goals clear hGl2
          all_goals generalize G ++ [p, p] = G2 at *
          all_goals go_wp2
          all_goals (go_roundw; (case rel => exact ⟨m, G2, ys, A6, c6, by omega, by go_num, rfl, HGL.out, hG2, HG2.out, HR3.out.1, HR3.out.2.1, HR3.out.2.2⟩); (case measure => simp [intOf]))
        | zero =>
          have hiss : ISS wr A5 G := iss_own hown rfl (fun j a h1 => by obtain ⟨B, d, h2, h3⟩ := hrd.out.2 j a h1; exact ⟨B, d, h2, h3.below hbel⟩)
          have HS2 := Lib.hid (H2.out G (fun a => by have := hGm.out a; rwa [List.drop_zero] at this) (by omega))
          have hGs : Short G 1048576 := fun a h1 => hFs a (by have := (hGm.out a).1 h1; rwa [List.drop_zero] at this)
          have j5 := j4.below hbel
          have B5 := below_step B4 hbel
          clear hown hrd hbel hGm hGl j4 B4 k4 H2
          go_wp2_with fail
          refine (implMin_any _ _ _ _ j5 (by omega) sO).mono ?_
          rw [H1.out.1, H1.out.2]
          rintro e w6 ⟨A6, c6, rfl, O6, b6⟩
          have j6 := j5.below b6
          have g6 := hiss.below b6
          have i6 := O6.iss
          have B6 := below_step B5 b6
          clear O6 b6 j5 hiss B5
          go_wp2_with fail
          refine (implMin_any _ _ _ _ g6 (by omega) hGs).mono ?_
          rw [HS2.out.1, HS2.out.2]
          rintro e w7 ⟨A7, c7, rfl, O7, b7⟩
          have j7 := j6.below b7
          have i7 := i6.below b7
          have h7 := O7.iss
          have B7 := below_step B6 b7
          clear O7 b7 j6 g6 i6 B6
          go_wp2_with fail
          refine (sameSets_yes _ _ _ _ _ _ i7 j7 (by omega) sO).mono ?_
          rintro e w8 ⟨rfl, d8⟩
          have B8 := below_step B7 d8.below
          have j8 := j7.below d8.below
          have h8 := h7.below d8.below
          clear B7 i7 j7 h7 d8
          go_wp2_with fail
          refine (sameSets_yes _ _ _ _ _ _ h8 j8 (by omega) sO).mono ?_
          rintro e w9 ⟨rfl, d9⟩
          have B9 := below_step B8 d9.below
          clear B8 j8 h8 d9
          go_wp2
          go_ret
          exact ⟨rfl, B9⟩
  · go_enter Try.func3, Try.ntmps3
    go_wp2
    go_ret
    exact ⟨rfl, Below.refl _ _⟩
end Go.Proofs.Ytgbijndfpbcjeaa
