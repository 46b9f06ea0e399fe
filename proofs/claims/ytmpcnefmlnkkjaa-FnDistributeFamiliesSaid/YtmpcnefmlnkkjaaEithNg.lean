/- The reference model's sum of quorum systems at slices that may be nil; pairs drawn, with what a nil slice's room is. -/
import Derived.Test.YtmpcnefmlnkkjaaGd
import Derived.Test.YtmpcnefmlnkkjaaDrawPg
import Derived.Laws.AppendOwnNone
namespace Go.Proofs.Ytmpcnefmlnkkjaa
open Go.RowKit

theorem wpList_append_opt {P : Program} (w : World) {ops : Array Oper} {rest : List Oper} {o : Oper} {a : Act} {Q : Exit → Act → World → Prop} (hgd : o.guard = none) (s x : Operand) (t : TypeId)
    (ho : o.op = .call { callee := .builtin .append, args := #[s, x], argTypes := #[t, t] })
    (base : Nat) (e : TypeId) (i : TypeInfo) (z : Value) (bytes : Nat) (ht : P.underlying t = some (.slice e)) (hi : P.info? e = some i) (hz : i.zero = some z)
    (hsize : i.size = 1) (hby : i.bytes = bytes) (hzs : z.cells.size = 1)
    (v : Value) (n : Nat) (xs : List Value) (hs : a.eval s = v) (hown : w.ownsRow base e 1 v n xs)
    (A : Option Addr) (m c : Nat) (news : List Value) (hA : A = none → m = 0 ∧ c = 0) (hx : a.eval x = .slice A m c) (hl : news.length = m) (hnews : ∀ ad, A = some ad → ∀ j u, news[j]? = some u → w.cell? (ad.add j) = some u) (h1 : ∀ u ∈ news, u.oneCell' = true)
    (h63 : n + m ≤ maxLen) (hbytes : (n + m) * bytes ≤ 140737488355328) (hbase : base ≤ w.heap.size)
    (h : ∀ v' w', w'.ownsRow base e 1 v' (n + m) (xs ++ news) → w.grownBy w' v.ownBlock → wpList P ops Q rest (a.put o.dst v') w') : wpList P ops Q (o :: rest) a w := by
  cases A with
  | none =>
    obtain ⟨rfl, rfl⟩ := hA rfl
    have hn : news = [] := List.eq_nil_of_length_eq_zero hl
    subst hn
    refine wpList_append_own_none hgd s x t ho base e i 1 ht hi v n xs hs hown hx (h v w ?_ ⟨rfl, rfl, rfl, Nat.le_refl _, fun _ _ _ => rfl⟩)
    simpa using hown
  | some ad => exact wpList_append_own w hgd s x t ho base e i z 1 bytes ht hi hz hsize hby hzs (by decide) v n xs hs hown ad m c news hx (by omega) (hnews ad rfl) h1 h63 hbytes hbase fun v' w' h2 h3 _ => h v' w' h2 h3

theorem ISS.cells_opt {w : World} {A : Option Addr} {F : List (List Int)} (h : ISS w A F) :
    ∃ vs : List Value, vs.length = F.length ∧ (∀ ad, A = some ad → ∀ j u, vs[j]? = some u → w.cell? (ad.add j) = some u) ∧ (∀ u ∈ vs, u.oneCell' = true) ∧ ∀ (j : Nat) l, F[j]? = some l → ∃ B d, vs[j]? = some (.slice B l.length d) ∧ IL w B l := by
  cases A with
  | none =>
    rcases h with rfl | ⟨b, off, e, _⟩
    · exact ⟨[], rfl, by simp, by simp, by simp⟩
    · cases e
  | some ad =>
    obtain ⟨vs, h1, h2, h3, h4⟩ := h.cells
    exact ⟨vs, h1, fun ad' e => by injection e with e; subst e; exact h2, h3, h4⟩
theorem ISS.adr {w : World} {A : Option Addr} {F : List (List Int)} {k : Nat} (h : ISS w A F) (hk : k < F.length) : ∃ ad, A = some ad := by
  obtain ⟨b, off, _, _, _, e, _⟩ := h.at_ hk
  exact ⟨_, e⟩

set_option maxRecDepth 100000 in
set_option maxHeartbeats 1600000 in
theorem specEither_opt (A B : Option Addr) (c d : Nat) (F G : List (List Int)) (w : World) (ha : ISS w A F) (hb : ISS w B G) (hA : A = none → F.length = 0 ∧ c = 0) (hB : B = none → G.length = 0 ∧ d = 0) (hlf : F.length ≤ 1048576) (hlg : G.length ≤ 1048576) (hsf : Short F 1048576) (hsg : Short G 1048576) :
    Calls Try.prog 28 #[.slice A F.length c, .slice B G.length d] w (NewSS2 w (outM (eithM F G) (bothOk F G)) (bothOk F G)) := by
  obtain ⟨i0, hi0, hz0, hz1, hz2⟩ := info_parts slice_info
  have HAB := Lib.hid (And.intro hA hB)
  clear hA hB
  cases hf : famOk F
  · have HF := Lib.hid hf
    have HB := Lib.hid (show bothOk F G = false by simp [bothOk, hf])
    clear hf
    go_enter Try.func28, Try.ntmps28
    go_wp2_with fail
    refine (specFam_any _ _ _ _ ha hlf hsf).mono ?_
    rintro e w1 ⟨he, hd1⟩
    rw [HF.out] at he
    subst he
    go_wp2
    go_ret2
    rw [HB.out, outM]
    exact NewSS2.made hd1.below
  · cases hg : famOk G
    · have HF := Lib.hid hf
      have HG := Lib.hid hg
      have HB := Lib.hid (show bothOk F G = false by simp [bothOk, hg])
      clear hf hg
      go_enter Try.func28, Try.ntmps28
      go_wp2_with fail
      refine (specFam_any _ _ _ _ ha hlf hsf).mono ?_
      rintro e w1 ⟨he, hd1⟩
      rw [HF.out] at he
      subst he
      go_wp2_with fail
      refine (specFam_any _ _ _ _ (hb.below hd1.below) hlg hsg).mono ?_
      rintro e w2 ⟨he, hd2⟩
      rw [HG.out] at he
      subst he
      have hd := hd1.trans hd2
      clear hd1 hd2
      go_wp2
      go_ret2
      rw [HB.out, outM]
      exact NewSS2.made hd.below
    · have HF := Lib.hid hf
      have HG := Lib.hid hg
      have HB := Lib.hid (show bothOk F G = true by simp [bothOk, hf, hg])
      have hlf2 := famOk_len hf
      have hlg2 := famOk_len hg
      have HV := Lib.hid (And.intro (famOk_allV hf) (famOk_allV hg))
      clear hf hg
      go_enter Try.func28, Try.ntmps28
      go_wp2_with fail
      refine (specFam_any _ _ _ _ ha hlf hsf).mono ?_
      rintro e w1 ⟨he, hd1⟩
      rw [HF.out] at he
      subst he
      go_wp2_with fail
      refine (specFam_any _ _ _ _ (hb.below hd1.below) hlg hsg).mono ?_
      rintro e w2 ⟨he, hd2⟩
      rw [HG.out] at he
      subst he
      have hbel := (hd1.trans hd2).below
      clear hd1 hd2
      have ha2 := ha.below (hbel.trans ((Below.refl _ w2).alloc hbel.size (.cells #[] 28)))
      obtain ⟨vf, f1, f2, f3, f4⟩ := ha2.cells_opt
      have hbA : Below w.heap.size w (w2.alloc (.cells #[] 28)) := hbel.alloc hbel.size _
      have h0 : (w2.alloc (.cells #[] 28)).ownsRow w2.heap.size 28 1 (.slice (some ⟨w2.heap.size, 0, none⟩) 0 0) 0 [] := World.ownsRow_made w2 #[] 0 (Nat.le_refl _) (by unfold maxLen; omega) (by simp)
      go_wp2_with (at_builtin; refine wpList_append_opt _ rfl (.tmp 15) (.tmp 16) 23 rfl w2.heap.size 28 i0 (.slice none 0 0) 24 Try.underlying23 hi0 hz0 hz1 hz2 rfl _ _ _ rfl h0 A F.length c vf HAB.out.1 rfl (by omega) f2 f3 (by unfold maxLen; omega) (by omega) (by simp) ?_)
      intro v3 w3 hown3 hgrow3
      have hb3 : Below w2.heap.size w2 w3 := ((Below.refl _ w2).alloc (Nat.le_refl _) _).grown hgrow3 (by simp) (fun k hk => by cases hk; exact Nat.le_refl _)
      obtain ⟨vg', k1, k2, k3, k4⟩ := (hb.below (below_step hbel hb3)).cells_opt
      obtain ⟨A3, c3, rfl⟩ := own_slice hown3
      have hs3 := hb3.size
      go_wp2_with (at_builtin; refine wpList_append_opt _ rfl (.tmp 17) (.tmp 18) 23 rfl w2.heap.size 28 i0 (.slice none 0 0) 24 Try.underlying23 hi0 hz0 hz1 hz2 rfl _ _ _ rfl hown3 B G.length d vg' HAB.out.2 rfl (by omega) k2 k3 (by unfold maxLen; omega) (by omega) hs3 ?_)
      intro v4 w4 hown4 hgrow4
      have hb4 : Below w2.heap.size w2 w4 := hb3.grown hgrow4 hb3.size (fun k hk => (hown3.lt k hk).1)
      have hfg : (F ++ G).length = F.length + G.length := List.length_append
      rw [← hfg] at hown4
      obtain ⟨A4, c4, rfl⟩ := own_slice hown4
      have hbw4 := below_step hbel hb4
      have hiss : ISS w4 A4 (F ++ G) := by
        refine iss_own hown4 rfl fun j l hl => ?_
        rcases Nat.lt_or_ge j F.length with hj | hj
        · rw [List.getElem?_append_left hj] at hl
          obtain ⟨a0, ea⟩ := ha.adr hj
          obtain ⟨vf', p1, p2, p3, p4⟩ := (ha.below hbel).cells_opt
          obtain ⟨B1, d', q1, q2⟩ := f4 j l hl
          obtain ⟨B2, d2, q3, q4⟩ := p4 j l hl
          have e1 := f2 a0 ea j _ q1
          have e2 := p2 a0 ea j _ q3
          have e3 : (w2.alloc (.cells #[] 28)).cell? (a0.add j) = some (.slice B2 l.length d2) := by
            have hlt := World.block_lt_of_cell? w2 _ e2
            rw [World.cell?_of_block (w := w2) (Below.heap_alloc w2 _ _ hlt)]
            exact e2
          rw [e1] at e3
          injection e3 with e3
          injection e3 with e4 _ e5
          subst e4 e5
          exact ⟨B1, d', by rw [List.getElem?_append_left (by omega)]; exact q1, q4.below hb4⟩
        · rw [List.getElem?_append_right hj] at hl
          obtain ⟨b0, eb⟩ := hb.adr (List.getElem?_eq_some_iff.1 hl).1
          obtain ⟨vh, r1, r2, r3, r4⟩ := (hb.below hbel).cells_opt
          obtain ⟨B1, d', q1, q2⟩ := k4 _ l hl
          obtain ⟨B2, d2, q3, q4⟩ := r4 _ l hl
          have e1 := k2 b0 eb _ _ q1
          have e2 := r2 b0 eb _ _ q3
          have hlt := World.block_lt_of_cell? w2 _ e2
          have e3 : w3.cell? (b0.add (j - F.length)) = some (.slice B2 l.length d2) := by
            rw [World.cell?_of_block (w := w2) (hb3.block _ hlt)]
            exact e2
          rw [e1] at e3
          injection e3 with e3
          injection e3 with e4 _ e5
          subst e4 e5
          exact ⟨B1, d', by rw [List.getElem?_append_right (by omega), f1]; exact q1, q4.below hb4⟩
      have HE := Lib.hid (show msks (F ++ G) = eithM F G from msks_app F G)
      have hsh := short_app hsf hsg
      have hlen : (F ++ G).length ≤ 1048576 := by omega
      have HV2 := Lib.hid (allV_app HV.out.1 HV.out.2)
      clear hown3 hgrow3 hown4 hgrow4 h0 f1 f2 f3 f4 k1 k2 k3 k4 hfg
      generalize F ++ G = U at *
      go_wp2_with fail
      refine (l3Min_any _ _ _ _ hiss hlen hsh HV2.out).mono ?_
      rintro e w5 ⟨A5, c5, rfl, o5, b5⟩
      have HR := Lib.hid (show NewSS2 w (outM (eithM F G) (bothOk F G)) (bothOk F G) (.returned (.tuple #[.slice A5 (mems (mins (msks U))).length c5, .bool true])) w5 by
        rw [HE.out] at *
        rw [HB.out, outM]
        exact ⟨A5, c5, rfl, o5.base hbw4.size, below_step hbw4 b5⟩)
      clear o5 b5
      go_wp2
      go_ret2
      exact HR.out

theorem OSS.room {w : World} {lo hi c : Nat} {A : Option Addr} {F : List (List Int)} (h : OSS w lo hi A c F) : A = none → F.length = 0 ∧ c = 0 := by
  obtain ⟨rs, ho, _⟩ := h
  rintro rfl
  rcases ho.2 with ⟨hv, h0⟩ | ⟨g, cap, cur, hv, _⟩
  · injection hv with _ _ hc
    exact ⟨h0, hc⟩
  · injection hv with hv
    cases hv

def DrewFN (w : World) (e : Ending) (w' : World) : Prop :=
  ∃ (F G : List (List Int)) (A B : Option Addr) (c d : Nat), F.length ≤ 65 ∧ G.length ≤ 65 ∧ Short F 7 ∧ Short G 7 ∧ e = .returned (.tuple #[.slice A F.length c, .slice B G.length d]) ∧ ISS w' A F ∧ ISS w' B G ∧ Below w.heap.size w w' ∧ (A = none → F.length = 0 ∧ c = 0) ∧ (B = none → G.length = 0 ∧ d = 0)

set_option maxRecDepth 100000 in
set_option maxHeartbeats 1600000 in
theorem drawEithN_any (A : Option Addr) (c : Nat) (l : List Int) (w : World) (ha : BL w A l) (hc : l.length ≤ c) (hm : l.length ≤ maxLen) (hmc : c ≤ maxLen) :
    Calls Try.prog 27 #[.slice A l.length c] w (DrewFN w) := by
  go_enter Try.func27, Try.ntmps27
  go_wp2_with fail
  refine (l6Open_any _ _ _ _ ha hc hm hmc).mono ?_
  rintro e w1 ⟨rfl, hr1, b1⟩
  have hlt := hr1.lt
  go_wp2_with fail
  refine (l91Family_any _ _ _ hr1 (by omega)).mono ?_
  rintro e w2 ⟨F, A2, c2, q2, hF, hS, rfl, o2, hr2, hq2, g2⟩
  go_wp2_with fail
  refine (l91Family_any _ _ _ hr2 (by omega)).mono ?_
  rintro e w3 ⟨G, A3, c3, q3, hG, hT, rfl, o3, hr3, hq3, g3⟩
  have B2 := rd_below b1 g2
  have B3 : Below w.heap.size w w3 := B2.grown g3 B2.size (fun k hk => by injection hk with hk; omega)
  have D := Lib.hid (show DrewFN w (.returned (.tuple #[.slice A2 F.length c2, .slice A3 G.length c3])) w3 from ⟨F, G, A2, A3, c2, c3, hF, hG, hS, hT, rfl, (o2.far g3 hlt).iss, o3.iss, B3, o2.room, o3.room⟩)
  clear o2 o3 hr1 hr2 hr3 g2 g3 b1 B2 B3
  go_wp2
  go_ret2
  exact D.out
end Go.Proofs.Ytmpcnefmlnkkjaa
