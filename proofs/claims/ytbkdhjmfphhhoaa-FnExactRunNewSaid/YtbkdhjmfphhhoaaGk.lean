/- Configurations in memory and as values; the model's deep copy of a quorum system. -/
import Derived.Test.YtbkdhjmfphhhoaaGd
import Derived.Laws.ResultCell
import Derived.Test.YtbkdhjmfphhhoaaGb
import Derived.Test.YtbkdhjmfphhhoaaGa
import Derived.Test.YtbkdhjmfphhhoaaGj
import Derived.Lib.SlicesCompact
namespace Go.Proofs.Ytbkdhjmfphhhoaa
open Go.RowKit

/-- A configuration in memory, and as a value. -/
def CB (w : World) (b : Nat) (p q : Value) : Prop := w.heap[b]? = some (.cells #[p, q] 25 (0, 0))
abbrev SV (A : Option Addr) (n c : Nat) : Value := .slice A n c
section
variable {w w' : World} {b : Nat} {p q : Value}
theorem CB.lt (h : CB w b p q) : b < w.heap.size := (Array.getElem?_eq_some_iff.1 h).1
theorem CB.fz (h : CB w b p q) (j : Nat) : w.frozen? ⟨b, j, none⟩ = false := frozen_of_row w b j _ _ h
theorem CB.c0 (h : CB w b p q) : w.cell? ⟨b, 0, none⟩ = some p := by rw [cell_of_row w b 0 _ _ (0, 0) h]; rfl
theorem CB.c1 (h : CB w b p q) : w.cell? ⟨b, 1, none⟩ = some q := by rw [cell_of_row w b 1 _ _ (0, 0) h]; rfl
theorem CB.kept (h : CB w b p q) (hb : w'.heap[b]? = w.heap[b]?) : CB w' b p q := hb.trans h
theorem CB.below (h : CB w b p q) (hb : Below w.heap.size w w') : CB w' b p q := h.kept (hb.block b h.lt)
theorem CB.new (w : World) (p q : Value) : CB (w.alloc (.cells #[p, q] 25)) w.heap.size p q := heap_alloc_new w _
theorem CB.set2 (h : CB w b p q) (p' q' : Value) : CB ((w.setCell ⟨b, 0, none⟩ p').setCell ⟨b, 1, none⟩ q') b p' q' := by
  have h1 : CB (w.setCell ⟨b, 0, none⟩ p') b p' q := by
    unfold CB
    rw [heap_setCell_same w b 0 _ _ _ h]
    rfl
  unfold CB
  rw [heap_setCell_same _ b 1 _ _ _ h1]
  rfl
end
theorem set2_keep (w : World) (b : Nat) (p q : Value) : Keep b (b + 1) w ((w.setCell ⟨b, 0, none⟩ p).setCell ⟨b, 1, none⟩ q) :=
  ⟨rfl, rfl, rfl, by simp [World.setCell], fun i _ hi => (Below.heap_setCell _ ⟨b, 1, none⟩ q i (by show i ≠ b; omega)).trans (Below.heap_setCell w ⟨b, 0, none⟩ p i (by show i ≠ b; omega))⟩

/-- A configuration of the call's own, and a sign. -/
def NewCfg (w : World) (F G : List (List Int)) (ok : Bool) (e : Ending) (w' : World) : Prop :=
  ∃ (A B : Option Addr) (c d m : Nat), e = .returned (.tuple #[.agg #[.slice A F.length c, .slice B G.length d], .bool ok]) ∧ w.heap.size ≤ m ∧ m ≤ w'.heap.size ∧ OSS w' w.heap.size m A c F ∧ OSS w' m w'.heap.size B d G ∧ Below w.heap.size w w'
theorem NewCfg.none {w w' : World} (hb : Below w.heap.size w w') : NewCfg w [] [] false (.returned (.tuple #[.agg #[.slice none 0 0, .slice none 0 0], .bool false])) w' :=
  ⟨Option.none, Option.none, 0, 0, w'.heap.size, rfl, hb.size, Nat.le_refl _, OSS.of_rows (World.ownsRow_nil _ _ _ _) (Rws.nil _ _ _), (OSS.of_rows (World.ownsRow_nil _ _ _ _) (Rws.nil _ _ _)), hb⟩

theorem take_snoc {F : List (List Int)} {k : Nat} {l : List Int} (h : F[k]? = some l) : F.take (k + 1) = F.take k ++ [l] := by simp [List.take_add_one, h]
set_option maxRecDepth 100000 in
set_option maxHeartbeats 1600000 in
/-- The model's deep copy of a quorum system. -/
theorem l13Copy_any (A : Option Addr) (c : Nat) (F : List (List Int)) (w : World) (ha : ISS w A F) (hf : famOk F = true) (hl : F.length ≤ 1000) :
    Calls Try.prog 56 #[.slice A F.length c] w (NewSS w F) := by
  obtain ⟨i0, hi0, hz0, hz1, hz2⟩ := info_parts slice_info
  obtain ⟨j0, hj0, hy0, hy1, hy2⟩ := info_parts int_info
  have HR := Lib.hid (fun (k : Nat) (l : List Int) (hx : F[k]? = some l) => fam_row hf hx)
  clear hf
  have h00 : (w.alloc (.cells #[] 37)).ownsRow w.heap.size 37 1 (.slice (some ⟨w.heap.size, 0, none⟩) 0 0) 0 [] := World.ownsRow_made w #[] 0 (Nat.le_refl _) (by unfold maxLen; omega) (by simp)
  have H00 := Lib.hid (And.intro h00 ((Below.refl _ w).alloc (Nat.le_refl _) (.cells #[] 37)))
  clear h00
  go_enter Try.func56, Try.ntmps56
  go_wp2
  go_loopw [3, 4] (fun v i wr => ∃ (k : Nat) (rs : List Value) (A5 : Option Addr) (c5 : Nat), k ≤ F.length ∧ i = .int .i64 k ∧ rs.length = k ∧ v = .slice A5 rs.length c5 ∧ wr.ownsRow w.heap.size 37 1 (.slice A5 rs.length c5) rs.length rs ∧ Hid (Rws wr w.heap.size wr.heap.size (F.take k) rs) ∧ Below w.heap.size w wr) (fun _ i _ => F.length - (intOf i).toNat)
  case atStart => exact ⟨0, [], _, _, Nat.zero_le _, rfl, rfl, rfl, H00.out.1, Rws.nil _ _ _, H00.out.2⟩
  case round =>
    clear H00
    obtain ⟨k, rs, A5, c5, hk, rfl, hrl, rfl, hown, hrows, hbel⟩ := hrel
    by_cases hlt : k < F.length
    · obtain ⟨b, off, l, B, d, rfl, hx, hc, hil⟩ := (ha.below hbel).at_ hlt
      obtain ⟨hv, hl0⟩ := HR.out _ _ hx
      have hl6 := vld_len hv
      have HM := Lib.hid (take_snoc hx)
      have HRL := Lib.hid hrl
      have hrl' : rs.length ≤ 1000 := by omega
      clear hx hrl hv
      rcases hil with hn | ⟨b3, off3, rfl, hlt3, hcc⟩
      · rw [hn] at hl0; simp at hl0
      have hbA : Below wr.heap.size wr (wr.alloc (.cells #[] 3)) := (Below.refl _ wr).alloc (Nat.le_refl _) _
      have ho0 : (wr.alloc (.cells #[] 3)).ownsRow wr.heap.size 3 1 (.slice (some ⟨wr.heap.size, 0, none⟩) 0 0) 0 [] := World.ownsRow_made wr #[] 0 (Nat.le_refl _) (by unfold maxLen; omega) (by simp)
      have hcA : (wr.alloc (.cells #[] 3)).cell? ⟨b, off + k, none⟩ = some (.slice (some ⟨b3, off3, none⟩) l.length d) := (World.cell?_of_block (w := wr) (Below.heap_alloc wr _ b (World.block_lt_of_cell? wr _ hc))).trans hc
      have hnews : ∀ (j : Nat) u, (l.map (Value.int .i64))[j]? = some u → (wr.alloc (.cells #[] 3)).cell? ((⟨b3, off3, none⟩ : Addr).add j) = some u := by
        intro j u hu
        rw [List.getElem?_map] at hu
        obtain ⟨x, hx, rfl⟩ := Option.map_eq_some_iff.1 hu
        rw [Addr.add_lit]
        exact (World.cell?_of_block (w := wr) (Below.heap_alloc wr _ b3 hlt3)).trans (hcc j x hx)
      clear hcc
      go_wp2_with (at_builtin; refine wpList_append_own _ rfl (.tmp 13) (.tmp 17) 37 rfl wr.heap.size 3 j0 (.int .i64 0) 1 8 Try.underlying37 hj0 hy0 hy1 hy2 rfl (by decide) _ _ _ rfl ho0 ⟨b3, off3, none⟩ l.length d (l.map (Value.int .i64)) rfl (by simp) hnews (ints_oneCell .i64 l) (by unfold maxLen; omega) (by omega) hbA.size ?_)
      intro v2 w2 ho2 hg2 _
      have b1 : Below wr.heap.size wr w2 := hbA.grown hg2 hbA.size (fun k hk => by cases hk; exact Nat.le_refl _)
      have o1 : w2.ownsRow wr.heap.size 3 1 v2 l.length (l.map (Value.int .i64)) := by simpa using ho2
      obtain ⟨A1, c1, rfl⟩ := own_slice o1
      have hown1 := own_at hown (w' := w2) fun g hg => b1.block g (hown.lt g hg).2
      have hb1 := below_step hbel b1
      have HR1 := Lib.hid (And.intro (hrows.out.below (Nat.le_refl _) b1) (show RowAt w2 wr.heap.size w2.heap.size l (.slice A1 l.length c1) from ⟨_, _, rfl, Own.of_new o1⟩))
      have hq : w.heap.size ≤ wr.heap.size ∧ wr.heap.size ≤ w2.heap.size := ⟨hbel.size, b1.size⟩
      clear hown hbel b1 o1 hrows hc ho2 hg2 ho0 hnews hcA hbA
      go_wp2_with (at_builtin; refine wpList_append_own _ rfl (.tmp 12) (.tmp 19) 23 rfl w.heap.size 37 i0 (.slice none 0 0) 1 24 Try.underlying23 hi0 hz0 hz1 hz2 rfl (by decide) _ _ _ rfl (hown1.alloc _) ⟨w2.heap.size, 0, none⟩ 1 1 [.slice A1 l.length c1] rfl rfl (cell_one_new _ _ _) (slice_oneCell _ _ _) (by unfold maxLen; omega) (by omega) (by simp; omega) ?_)
      intro v' w3 hown2 hgrow _
      have hown2' : w3.ownsRow w.heap.size 37 1 v' (rs ++ [Value.slice A1 l.length c1]).length (rs ++ [Value.slice A1 l.length c1]) := by simpa using hown2
      obtain ⟨A6, c6, rfl⟩ := own_slice hown2'
      have R := Lib.hid (show w3.ownsRow w.heap.size 37 1 (.slice A6 (rs ++ [Value.slice A1 l.length c1]).length c6) (rs ++ [Value.slice A1 l.length c1]).length (rs ++ [Value.slice A1 l.length c1]) ∧ Rws w3 w.heap.size w3.heap.size (F.take (k + 1)) (rs ++ [Value.slice A1 l.length c1]) ∧ Below w.heap.size w w3 by
        refine ⟨hown2', ?_, app_gen hown1 (Nat.le_refl _) hb1 hgrow⟩
        rw [HM.out]
        exact rows_app HR1.out.1 HR1.out.2 (Nat.le_refl _) hq.1 hq.2 hown1 hgrow)
      clear hown1 hown2 hown2' hgrow hb1 HR1
      go_wp2
      go_roundw
      case rel => exact ⟨k + 1, _, _, _, by omega, by go_num, by have := HRL.out; simp; omega, by simp, R.out.1, R.out.2.1, R.out.2.2⟩
      case measure => simp [intOf]; omega
    · have hkl : k = F.length := by omega
      subst hkl
      have h1 := hrows.out
      rw [List.take_length] at h1
      rw [hrl] at hown
      have HO := Lib.hid (OSS.of_rows hown h1)
      rw [hrl]
      clear hown hrows h1 hrl
      go_wp2
      go_ret
      exact ⟨A5, c5, rfl, HO.out, hbel⟩

end Go.Proofs.Ytbkdhjmfphhhoaa

/- The exact laws' helpers on configurations, by their contracts. -/
namespace Go.Proofs.Ytbkdhjmfphhhoaa
open Go.RowKit

abbrev CV (A : Option Addr) (n c : Nat) (B : Option Addr) (m d : Nat) : Value := .agg #[.slice A n c, .slice B m d]
set_option maxRecDepth 100000 in
set_option maxHeartbeats 1600000 in
/-- Two configurations that read as the same lists are equal. -/
theorem eqConfig_yes (A B A' B' : Option Addr) (c d c' d' : Nat) (F G : List (List Int)) (w : World) (h1 : ISS w A F) (h2 : ISS w B G) (h3 : ISS w A' F) (h4 : ISS w B' G) (hF : F.length ≤ 1048576) (sF : Short F 1048576) (hG : G.length ≤ 1048576) (sG : Short G 1048576) :
    Calls Try.prog 38 #[.agg #[.slice A F.length c, .slice B G.length d], .agg #[.slice A' F.length c', .slice B' G.length d']] w fun e w' => e = .returned (.bool true) ∧ Below w.heap.size w w' := by
  have ba : Below w.heap.size w ((w.alloc (.cells #[.slice A F.length c, .slice B G.length d] 25)).alloc (.cells #[.slice A' F.length c', .slice B' G.length d'] 25)) := ((Below.refl _ w).alloc (Nat.le_refl _) _).alloc (by simp) _
  have cb : CB ((w.alloc (.cells #[.slice A F.length c, .slice B G.length d] 25)).alloc (.cells #[.slice A' F.length c', .slice B' G.length d'] 25)) w.heap.size (.slice A F.length c) (.slice B G.length d) :=
    (CB.new w _ _).below ((Below.refl _ _).alloc (Nat.le_refl _) _)
  have cb' : CB ((w.alloc (.cells #[.slice A F.length c, .slice B G.length d] 25)).alloc (.cells #[.slice A' F.length c', .slice B' G.length d'] 25)) (w.heap.size + 1) (.slice A' F.length c') (.slice B' G.length d') := by
    have := CB.new (w.alloc (.cells #[.slice A F.length c, .slice B G.length d] 25)) (.slice A' F.length c') (.slice B' G.length d')
    rwa [World.size_alloc] at this
  go_enter Try.func38, Try.ntmps38
  go_wp2_with fail
  refine (eqIntSS_yes _ _ _ _ _ _ (h1.below ba) (h3.below ba) hF sF).mono ?_
  rintro e w1 ⟨rfl, d1⟩
  have b1 := below_step ba d1.below
  have cb1 := cb.below d1.below
  have cb1' := cb'.below d1.below
  have q1 := cb1.c1
  have q2 := cb1'.c1
  clear ba cb cb' d1
  go_wp2_with fail
  refine (eqIntSS_yes _ _ _ _ _ _ (h2.below b1) (h4.below b1) hG sG).mono ?_
  rintro e w2 ⟨rfl, d2⟩
  have b2 := below_step b1 d2.below
  clear b1 d2
  go_wp2
  go_ret
  exact ⟨rfl, b2⟩

theorem Keep.wide {lo hi lo2 hi2 : Nat} {w w' : World} (h : Keep lo hi w w') (h1 : lo2 ≤ lo) (h2 : hi ≤ hi2) : Keep lo2 hi2 w w' := by
  obtain ⟨a, b, c, d, e⟩ := h
  exact ⟨a, b, c, d, fun i hi hn => e i hi (by omega)⟩

set_option maxRecDepth 100000 in
set_option maxHeartbeats 1600000 in
/-- Marks are written into both systems of a configuration. -/
theorem markConfig_own (lo m hi : Nat) (A B : Option Addr) (c d : Nat) (F G : List (List Int)) (k : Nat) (K : Int) (hK : K = (k : Int)) (w : World) (h1 : OSS w lo m A c F) (h2 : OSS w m hi B d G) (hm : lo ≤ m) (hh : m ≤ hi) (hF : F.length ≤ 1048576) (sF : wt F ≤ 1048576) (hG : G.length ≤ 1048576) (sG : wt G ≤ 1048576) (hk : k + wt F ≤ 1048577) :
    Calls Try.prog 39 #[.agg #[.slice A F.length c, .slice B G.length d], .int .i64 K] w fun e w' =>
      e = .returned (.int .i64 (K + wt F + wt G)) ∧ OSS w' lo m A c (markSS k F) ∧ OSS w' m hi B d (markSS (k + wt F) G) ∧ Keep lo hi w w' := by
  have HK := Lib.hid hK
  have HS := Lib.hid (And.intro hk (And.intro sF sG))
  clear hK hk sF sG
  have ba : Below w.heap.size w (w.alloc (.cells #[.slice A F.length c, .slice B G.length d] 25)) := (Below.refl _ w).alloc (Nat.le_refl _) _
  have cb := CB.new w (.slice A F.length c) (.slice B G.length d)
  have hhi := h2.hi_le
  have g1 := h1.below ba
  have g2 := h2.below ba
  clear h1 h2
  go_enter Try.func39, Try.ntmps39
  go_wp2_with fail
  refine (markSS_i _ _ _ _ _ k _ HK.out _ g1 hF HS.out.2.1 (by have := HS.out.1; omega)).mono ?_
  rintro e w1 ⟨rfl, o1, k1⟩
  have o2 := g2.keep k1 (.inr (Nat.le_refl _))
  have cb1 : CB w1 w.heap.size (.slice A F.length c) (.slice B G.length d) := cb.kept (k1.block _ (by simp) (by omega))
  have q1 := cb1.c1
  have kk := (Keep.of_below lo hi ba).trans (k1.wide (Nat.le_refl _) hh)
  clear g1 g2 cb cb1 ba k1
  go_wp2_with fail
  refine (markSS_i _ _ _ _ _ (k + wt F) _ (by rw [HK.out, Int.natCast_add]) _ o2 hG HS.out.2.2 HS.out.1).mono ?_
  rintro e w2 ⟨rfl, o3, k2⟩
  have o4 := o1.keep k2 (.inl (Nat.le_refl _))
  have kk2 := kk.trans (k2.wide hm (Nat.le_refl _))
  clear o1 o2 kk k2
  go_wp2
  go_ret
  exact ⟨rfl, o4, o3, kk2⟩

set_option maxRecDepth 100000 in
set_option maxHeartbeats 1600000 in
theorem heldConfig_any (A B : Option Addr) (c d : Nat) (F G : List (List Int)) (k : Nat) (K : Int) (hK : K = (k : Int)) (w : World) (h1 : ISS w A (markSS k F)) (h2 : ISS w B (markSS (k + wt F) G)) (hF : F.length ≤ 1048576) (sF : wt F ≤ 1048576) (hG : G.length ≤ 1048576) (sG : wt G ≤ 1048576) (hk : k + wt F ≤ 1048577) :
    Calls Try.prog 92 #[.agg #[.slice A F.length c, .slice B G.length d], .int .i64 K] w fun e w' =>
      e = .returned (.int .i64 (K + wt F + wt G)) ∧ Below w.heap.size w w' := by
  have ba : Below w.heap.size w (w.alloc (.cells #[.slice A F.length c, .slice B G.length d] 25)) := (Below.refl _ w).alloc (Nat.le_refl _) _
  have n1 : decide (K + (wt F : Int) < 0) = false := decide_eq_false (by omega)
  have n2 : decide (K + (wt F : Int) + (wt G : Int) < 0) = false := decide_eq_false (by omega)
  have HK := Lib.hid hK
  have HS := Lib.hid (And.intro hk (And.intro sF sG))
  clear hK hk sF sG
  go_enter Try.func92, Try.ntmps92
  go_wp2_with fail
  refine (heldSS_i _ _ _ k _ HK.out _ (h1.below ba) hF HS.out.2.1 (by have := HS.out.1; omega)).mono ?_
  rintro e w' ⟨rfl, rfl⟩
  go_wp2_with fail
  refine (heldSS_i _ _ _ (k + wt F) _ (by rw [HK.out, Int.natCast_add]) _ (h2.below ba) hG HS.out.2.2 HS.out.1).mono ?_
  rintro e w' ⟨rfl, rfl⟩
  go_wp2
  go_ret
  exact ⟨rfl, ba⟩

end Go.Proofs.Ytbkdhjmfphhhoaa

/- Runs of one consensus instance as values, no program: what is consistent, the two phases, scripts; and the way the program keeps them, by ballots. -/
namespace Go.Proofs.Ytbkdhjmfphhhoaa

/-- A proposal: ballot, value, votes. -/
abbrev Pr := Int × Int × List Int
structure Rn where
  P : List (List Int)
  Q : List (List Int)
  ac : List Ac
  pr : List Pr

def cmpOk (F G : List (List Int)) : Bool := famOk F && famOk G && !F.isEmpty && !G.isEmpty
/-- Ballots ascend from q on; values and votes are valid. -/
def prOk : Int → List Pr → Bool
  | _, [] => true
  | q, p :: t => decide (q < p.1) && decide (p.1 ≤ 20) && okV p.2.1 && vld p.2.2 && prOk p.1 t
/-- What a member's votes say of its state. -/
def votOk (pr : List Pr) (m : Int) (a : Ac) : Bool := pr.all fun p => !has p.2.2 m || decide (p.1 ≤ a.2.1)
def accOk (pr : List Pr) (m : Int) (a : Ac) : Bool := a.2.1 == 0 || pr.any fun p => p.1 == a.2.1 && (p.2.1 == a.2.2 && has p.2.2 m)
def seatOk (pr : List Pr) (m : Int) (a : Ac) : Bool := a.ok && votOk pr m a && accOk pr m a
def acAt (ac : List Ac) (m : Int) : Ac := ac.getD (m.toNat - 1) (0, 0, 0)
def seatsOk (ac : List Ac) (pr : List Pr) : Bool := six.all fun m => seatOk pr m (acAt ac m)
def runOk (r : Rn) : Bool := cmpOk r.P r.Q && (r.ac.length == 6) && prOk 0 r.pr && seatsOk r.ac r.pr

theorem cmpOk_parts {F G : List (List Int)} (h : cmpOk F G = true) : famOk F = true ∧ famOk G = true ∧ 0 < F.length ∧ 0 < G.length := by
  simp only [cmpOk, Bool.and_eq_true, Bool.not_eq_true', List.isEmpty_eq_false_iff] at h
  exact ⟨h.1.1.1, h.1.1.2, List.length_pos_iff.2 h.1.2, List.length_pos_iff.2 h.2⟩
theorem runOk_parts {r : Rn} (h : runOk r = true) : cmpOk r.P r.Q = true ∧ r.ac.length = 6 ∧ prOk 0 r.pr = true ∧ seatsOk r.ac r.pr = true := by
  simp only [runOk, Bool.and_eq_true, beq_iff_eq] at h
  exact ⟨h.1.1.1, h.1.1.2, h.1.2, h.2⟩
theorem runOk_of {r : Rn} (h1 : cmpOk r.P r.Q = true) (h2 : r.ac.length = 6) (h3 : prOk 0 r.pr = true) (h4 : seatsOk r.ac r.pr = true) : runOk r = true := by
  simp [runOk, h1, h2, h3, h4]

/-! proposals -/
theorem prOk_mem : ∀ {q : Int} {l : List Pr}, prOk q l = true → ∀ p ∈ l, q < p.1 ∧ p.1 ≤ 20 ∧ okV p.2.1 = true ∧ vld p.2.2 = true
  | q, [], _ => fun p hp => absurd hp List.not_mem_nil
  | q, x :: t, h => by
    simp only [prOk, Bool.and_eq_true, decide_eq_true_eq] at h
    intro p hp
    rcases List.mem_cons.1 hp with rfl | hp
    · exact ⟨h.1.1.1.1, h.1.1.1.2, h.1.1.2, h.1.2⟩
    · have := prOk_mem h.2 p hp
      exact ⟨by omega, this.2⟩
theorem prOk_asc : ∀ {q : Int} {l : List Pr}, prOk q l = true → l.Pairwise fun a b => a.1 < b.1
  | q, [], _ => List.Pairwise.nil
  | q, x :: t, h => by
    simp only [prOk, Bool.and_eq_true] at h
    exact List.pairwise_cons.2 ⟨fun p hp => (prOk_mem h.2 p hp).1, prOk_asc h.2⟩
theorem prOk_of : ∀ {q : Int} {l : List Pr}, l.Pairwise (fun a b => a.1 < b.1) → (∀ p ∈ l, q < p.1 ∧ p.1 ≤ 20 ∧ okV p.2.1 = true ∧ vld p.2.2 = true) → prOk q l = true
  | q, [], _, _ => rfl
  | q, x :: t, h1, h2 => by
    obtain ⟨a, b⟩ := List.pairwise_cons.1 h1
    obtain ⟨c1, c2, c3, c4⟩ := h2 x (by simp)
    simp only [prOk, c3, c4, Bool.and_eq_true, decide_eq_true_eq, and_true]
    exact ⟨⟨c1, c2⟩, prOk_of b fun p hp => ⟨a p hp, (h2 p (by simp [hp])).2⟩⟩
/-- The last ballot of the first k. -/
def lastB (l : List Pr) : Nat → Int
  | 0 => 0
  | k + 1 => ((l[k]?).map fun p => p.1).getD 0
theorem prOk_one {q : Int} {x : Pr} : prOk q [x] = (decide (q < x.1) && decide (x.1 ≤ 20) && okV x.2.1 && vld x.2.2) := by simp only [prOk, Bool.and_true]
theorem prOk_snoc : ∀ {l : List Pr} {q : Int} (x : Pr), prOk q (l ++ [x]) = (prOk q l && prOk ((l.getLast?.map fun p => p.1).getD q) [x])
  | [], q, x => by simp only [List.nil_append, prOk, Bool.true_and]; rfl
  | y :: t, q, x => by
    rw [List.cons_append]
    simp only [prOk, prOk_snoc x]
    cases t with
    | nil => simp only [prOk, Bool.and_assoc, Bool.and_true]; rfl
    | cons z t =>
      obtain ⟨u, hu⟩ : ∃ u, (z :: t).getLast? = some u := ⟨_, List.getLast?_eq_some_getLast (by simp)⟩
      rw [List.getLast?_cons_cons, hu]
      simp only [Bool.and_assoc, Option.map_some, Option.getD_some]
theorem last_take {l : List Pr} {k : Nat} (h : k ≤ l.length) : ((l.take k).getLast?.map fun p => p.1).getD 0 = lastB l k := by
  cases k with
  | zero => simp [lastB]
  | succ k =>
    have hx : l[k]? = some l[k] := List.getElem?_eq_getElem (by omega)
    rw [List.take_add_one, hx]
    show ((List.take k l ++ [l[k]]).getLast?.map fun p => p.1).getD 0 = _
    rw [List.getLast?_concat]
    simp [lastB, hx]
theorem take_p {l : List Pr} {k : Nat} {x : Pr} (h : l[k]? = some x) : l.take (k + 1) = l.take k ++ [x] := by simp [List.take_add_one, h]
theorem prOk_step {l : List Pr} {k : Nat} {x : Pr} (h : l[k]? = some x) : prOk 0 (l.take (k + 1)) = (prOk 0 (l.take k) && (decide (lastB l k < x.1) && decide (x.1 ≤ 20) && okV x.2.1 && vld x.2.2)) := by
  have hk : k < l.length := (List.getElem?_eq_some_iff.1 h).1
  rw [take_p h, prOk_snoc, last_take (by omega), prOk_one]
theorem prOk_stop {l : List Pr} {k : Nat} {x : Pr} (h : l[k]? = some x) (hb : (decide (lastB l k < x.1) && decide (x.1 ≤ 20) && okV x.2.1 && vld x.2.2) = false) : prOk 0 l = false := by
  rw [Bool.eq_false_iff]
  intro ho
  have key : ∀ n, prOk 0 (l.take (k + 1 + n)) = true → prOk 0 (l.take (k + 1)) = true := by
    intro n
    induction n with
    | zero => exact id
    | succ n ih =>
      intro hn
      refine ih ?_
      rcases Nat.lt_or_ge (k + 1 + n) l.length with hl | hl
      · rw [show k + 1 + (n + 1) = (k + 1 + n) + 1 by omega, prOk_step (List.getElem?_eq_getElem hl), Bool.and_eq_true] at hn
        exact hn.1
      · rw [List.take_of_length_le (by omega)] at hn ⊢
        exact hn
  have := key l.length (by rw [List.take_of_length_le (by omega)]; exact ho)
  rw [prOk_step h, hb, Bool.and_false] at this
  cases this
theorem lastB_bd {l : List Pr} {k : Nat} (h : prOk 0 (l.take k) = true) (hk : k ≤ l.length) : 0 ≤ lastB l k ∧ lastB l k ≤ 20 := by
  cases k with
  | zero => simp [lastB]
  | succ k =>
    have hx : l[k]? = some l[k] := List.getElem?_eq_getElem (by omega)
    have := prOk_mem h l[k] (by rw [take_p hx]; exact List.mem_append_right _ (List.mem_singleton.2 rfl))
    simp only [lastB, hx, Option.map_some, Option.getD_some]
    omega

/-- The proposal of a ballot. -/
def fnd (pr : List Pr) (b : Int) : Option Pr := pr.find? fun p => p.1 == b
theorem fnd_some {pr : List Pr} {b : Int} {p : Pr} (h : fnd pr b = some p) : p ∈ pr ∧ p.1 = b := ⟨List.mem_of_find?_eq_some h, by simpa using List.find?_some h⟩
theorem fnd_none {pr : List Pr} {b : Int} : fnd pr b = none ↔ ∀ p ∈ pr, p.1 ≠ b := by simp [fnd]
theorem asc_one : ∀ {l : List Pr}, l.Pairwise (fun a b => a.1 < b.1) → ∀ p ∈ l, ∀ q ∈ l, p.1 = q.1 → p = q
  | [], _ => fun p hp => absurd hp List.not_mem_nil
  | x :: t, h => by
    obtain ⟨a, b⟩ := List.pairwise_cons.1 h
    intro p hp q hq e
    rcases List.mem_cons.1 hp with h1 | h1
    · rcases List.mem_cons.1 hq with h2 | h2
      · rw [h1, h2]
      · have := a q h2; rw [← h1] at this; omega
    · rcases List.mem_cons.1 hq with h2 | h2
      · have := a p h1; rw [← h2] at this; omega
      · exact asc_one b p h1 q h2 e
theorem fnd_mem {pr : List Pr} {p : Pr} (h : pr.Pairwise fun a b => a.1 < b.1) (hp : p ∈ pr) : fnd pr p.1 = some p := by
  cases e : fnd pr p.1 with
  | none => exact absurd rfl (fnd_none.1 e p hp)
  | some q =>
    obtain ⟨h1, h2⟩ := fnd_some e
    rw [asc_one h q h1 p hp h2]

/-! the same by ballots -/
/-- A value and votes as a mask. -/
abbrev Tl := Int × Nat
def tlB (pr : List Pr) (b : Int) : Tl := match fnd pr b with
  | some p => (p.2.1, msk p.2.2)
  | none => (0, 0)
def tlOf (pr : List Pr) : List Tl := (List.range 21).map fun b : Nat => tlB pr (b : Int)
theorem tlOf_len (pr : List Pr) : (tlOf pr).length = 21 := by simp [tlOf]
theorem tlOf_at (pr : List Pr) {b : Nat} (h : b < 21) : (tlOf pr)[b]? = some (tlB pr (b : Int)) := by simp [tlOf, h]
theorem tlOf_nil : tlOf [] = List.replicate 21 ((0, 0) : Tl) := by decide +kernel
theorem fnd_snoc {pr : List Pr} {x : Pr} {b : Int} : fnd (pr ++ [x]) b = (fnd pr b).or (if x.1 = b then some x else none) := by
  simp only [fnd, List.find?_append]
  congr 1
  by_cases h : x.1 = b <;> simp [h]
theorem tlOf_snoc {pr : List Pr} {x : Pr} (h : prOk 0 (pr ++ [x]) = true) : tlOf (pr ++ [x]) = (tlOf pr).set x.1.toNat (x.2.1, msk x.2.2) := by
  have hx := prOk_mem h x (by simp)
  have hn : fnd pr x.1 = none := fnd_none.2 fun p hp => by
    have := (List.pairwise_append.1 (prOk_asc h)).2.2 p hp x (by simp)
    omega
  apply List.ext_getElem?
  intro b
  rcases Nat.lt_or_ge b 21 with hb | hb
  · rw [tlOf_at _ hb, List.getElem?_set]
    by_cases e : x.1.toNat = b
    · rw [if_pos e, if_pos (by rw [tlOf_len]; omega)]
      have : x.1 = (b : Int) := by omega
      simp [tlB, fnd_snoc, ← this, hn]
    · rw [if_neg e, tlOf_at _ hb]
      have : ¬ x.1 = (b : Int) := by omega
      simp [tlB, fnd_snoc, this]
  · rw [List.getElem?_eq_none (by rw [tlOf_len]; exact hb), List.getElem?_eq_none (by rw [List.length_set, tlOf_len]; exact hb)]
theorem msk_zero_nil {l : List Int} (h : vld l = true) (h0 : msk l = 0) : l = [] := by rw [← mem_msk h, h0]; rfl
/-- What a member's tallies say of its state. -/
def bornA (pr : List Pr) (m : Int) (a : Ac) : Bool := (List.range 21).all fun b : Nat => !(decide (a.2.1 < (b : Int)) && Nat.testBit (tlB pr (b : Int)).2 (m.toNat - 1))
def bornB (pr : List Pr) (m : Int) (a : Ac) : Bool := a.2.1 == 0 || (Nat.testBit (tlB pr a.2.1).2 (m.toNat - 1) && (tlB pr a.2.1).1 == a.2.2)
theorem bit_has {s : List Int} (hs : vld s = true) {m : Int} (hm : m ∈ six) : Nat.testBit (msk s) (m.toNat - 1) = has s m := by
  have := cont_msk hs m
  have h6 : 1 ≤ m ∧ m ≤ 6 := by simp [six] at hm; omega
  rw [← this]
  simp [h6.1, h6.2]
theorem bornA_eq {pr : List Pr} (h : prOk 0 pr = true) {m : Int} (hm : m ∈ six) (a : Ac) : bornA pr m a = votOk pr m a := by
  have hin := prOk_mem h
  have hac := prOk_asc h
  rw [Bool.eq_iff_iff]
  simp only [bornA, votOk, List.all_eq_true, List.mem_range, Bool.not_eq_true', Bool.or_eq_true, Bool.and_eq_false_imp, decide_eq_true_eq]
  constructor
  · intro H p hp
    obtain ⟨p0, p1, p2, p3⟩ := hin p hp
    have e : ((p.1.toNat : Nat) : Int) = p.1 := by omega
    have := H p.1.toNat (by omega)
    rw [e, tlB, fnd_mem hac hp] at this
    simp only [bit_has p3 hm] at this
    by_cases hl : a.2.1 < p.1
    · exact .inl (this hl)
    · exact .inr (by omega)
  · intro H b hb hl
    unfold tlB
    cases e : fnd pr (b : Int) with
    | none => simp
    | some p =>
      obtain ⟨h1, h2⟩ := fnd_some e
      show Nat.testBit (msk p.2.2) _ = false
      rw [bit_has (hin p h1).2.2.2 hm]
      rcases H p h1 with h3 | h3
      · exact h3
      · omega
theorem bornB_eq {pr : List Pr} (h : prOk 0 pr = true) {m : Int} (hm : m ∈ six) (a : Ac) : bornB pr m a = accOk pr m a := by
  have hin := prOk_mem h
  have hac := prOk_asc h
  unfold bornB accOk
  congr 1
  rw [Bool.eq_iff_iff]
  simp only [List.any_eq_true, Bool.and_eq_true, beq_iff_eq]
  constructor
  · rintro ⟨h1, h2⟩
    unfold tlB at h1 h2
    cases e : fnd pr a.2.1 with
    | none => rw [e] at h1; simp at h1
    | some p =>
      rw [e] at h1 h2
      obtain ⟨h3, h4⟩ := fnd_some e
      exact ⟨p, h3, h4, h2, by rw [← bit_has (hin p h3).2.2.2 hm]; exact h1⟩
  · rintro ⟨p, h1, h2, h3, h4⟩
    rw [← h2, tlB, fnd_mem hac h1]
    exact ⟨by rw [bit_has (hin p h1).2.2.2 hm]; exact h4, h3⟩
theorem seat_born {pr : List Pr} (h : prOk 0 pr = true) {m : Int} (hm : m ∈ six) (a : Ac) : seatOk pr m a = (a.ok && bornA pr m a && bornB pr m a) := by
  rw [seatOk, bornA_eq h hm, bornB_eq h hm]
/-- The proposals of tallies. -/
def prB (tl : List Tl) (b : Nat) : List Pr := if (tl.getD b (0, 0)).1 == 0 then [] else [((b : Int), (tl.getD b (0, 0)).1, mem (tl.getD b (0, 0)).2)]
def prsTo (tl : List Tl) (k : Nat) : List Pr := (List.range k).flatMap (prB tl)
theorem prsTo_succ (tl : List Tl) (k : Nat) : prsTo tl (k + 1) = prsTo tl k ++ prB tl k := by simp [prsTo, List.range_succ]
theorem tlB_getD (pr : List Pr) {b : Nat} (h : b < 21) : (tlOf pr).getD b (0, 0) = tlB pr (b : Int) := by simp [List.getD, tlOf_at pr h]
theorem prB_of {pr : List Pr} (h : prOk 0 pr = true) {b : Nat} (hb : b < 21) : prB (tlOf pr) b = (fnd pr (b : Int)).toList := by
  unfold prB
  rw [tlB_getD _ hb, tlB]
  cases e : fnd pr (b : Int) with
  | none => rfl
  | some p =>
    obtain ⟨h1, h2⟩ := fnd_some e
    obtain ⟨_, _, p2, p3⟩ := prOk_mem h p h1
    have hv : ¬ p.2.1 = 0 := by simp [okV] at p2; omega
    simp only [beq_iff_eq, hv, if_false, mem_msk p3, ← h2, Option.toList]
theorem asc_ext' {l m : List Pr} (hl : l.Pairwise fun a b => a.1 < b.1) (hm : m.Pairwise fun a b => a.1 < b.1) (h : ∀ p, p ∈ l ↔ p ∈ m) : l = m := by
  induction l generalizing m with
  | nil =>
    cases m with
    | nil => rfl
    | cons y m => exact absurd ((h y).2 (by simp)) List.not_mem_nil
  | cons x l ih =>
    cases m with
    | nil => exact absurd ((h x).1 (by simp)) List.not_mem_nil
    | cons y m =>
      obtain ⟨a1, b1⟩ := List.pairwise_cons.1 hl
      obtain ⟨a2, b2⟩ := List.pairwise_cons.1 hm
      have e : x = y := by
        rcases List.mem_cons.1 ((h x).1 (by simp)) with e | e
        · exact e
        · rcases List.mem_cons.1 ((h y).2 (by simp)) with e2 | e2
          · exact e2.symm
          · have := a1 y e2; have := a2 x e; omega
      subst e
      congr 1
      refine ih b1 b2 fun p => ⟨fun hp => ?_, fun hp => ?_⟩
      · rcases List.mem_cons.1 ((h p).1 (by simp [hp])) with e | e
        · subst e; have := a1 p hp; omega
        · exact e
      · rcases List.mem_cons.1 ((h p).2 (by simp [hp])) with e | e
        · subst e; have := a2 p hp; omega
        · exact e
theorem prsTo_of {pr : List Pr} (h : prOk 0 pr = true) : prsTo (tlOf pr) 21 = pr := by
  have hac := prOk_asc h
  have key : ∀ k, k ≤ 21 → (prsTo (tlOf pr) k).Pairwise (fun a b => a.1 < b.1) ∧ ∀ p, p ∈ prsTo (tlOf pr) k ↔ p ∈ pr ∧ p.1 < k := by
    intro k
    induction k with
    | zero => intro _; exact ⟨List.Pairwise.nil, fun p => ⟨fun hp => absurd hp List.not_mem_nil, fun ⟨hp, h1⟩ => by have := (prOk_mem h p hp).1; omega⟩⟩
    | succ k ih =>
      intro hk
      obtain ⟨i1, i2⟩ := ih (by omega)
      rw [prsTo_succ, prB_of h (by omega)]
      constructor
      · refine List.pairwise_append.2 ⟨i1, ?_, fun a ha b hb => ?_⟩
        · cases fnd pr (k : Int) <;> simp
        · have := ((i2 a).1 ha).2
          have := (fnd_some (Option.mem_toList.1 hb)).2
          omega
      · intro p
        rw [List.mem_append, i2 p, Option.mem_toList]
        constructor
        · rintro (⟨h1, h2⟩ | h1)
          · exact ⟨h1, by omega⟩
          · obtain ⟨h2, h3⟩ := fnd_some h1
            exact ⟨h2, by omega⟩
        · rintro ⟨h1, h2⟩
          by_cases e : p.1 = k
          · right; rw [← e]; exact fnd_mem hac h1
          · exact .inl ⟨h1, by omega⟩
  obtain ⟨i1, i2⟩ := key 21 (Nat.le_refl _)
  exact asc_ext' i1 hac fun p => ⟨fun hp => ((i2 p).1 hp).1, fun hp => (i2 p).2 ⟨hp, by have := (prOk_mem h p hp).2.1; omega⟩⟩
end Go.Proofs.Ytbkdhjmfphhhoaa

/- The phases of a run as values, no program: delivery to members, prepare, accept, what is chosen, scripts; that they keep a run consistent. -/
namespace Go.Proofs.Ytbkdhjmfphhhoaa

/-! delivery -/
/-- One member answers. -/
def dlv1 (f : Ac → Ac × Bool) (s : List Ac × List Int) (m : Int) : List Ac × List Int :=
  let r := f (acAt s.1 m)
  if r.2 then (s.1.set (m.toNat - 1) r.1, s.2 ++ [m]) else s
def dlv (f : Ac → Ac × Bool) (ms : List Int) (ac : List Ac) : List Ac × List Int := ms.foldl (dlv1 f) (ac, [])
theorem dlv_step (f : Ac → Ac × Bool) {ms : List Int} {k : Nat} {m : Int} (h : ms[k]? = some m) (ac : List Ac) : dlv f (ms.take (k + 1)) ac = dlv1 f (dlv f (ms.take k) ac) m := by
  rw [List.take_add_one, h]
  simp [dlv]
theorem dlv1_yes {f : Ac → Ac × Bool} {s : List Ac × List Int} {m : Int} {a : Ac} (h : f (acAt s.1 m) = (a, true)) : dlv1 f s m = (s.1.set (m.toNat - 1) a, s.2 ++ [m]) := by simp [dlv1, h]
theorem dlv1_no {f : Ac → Ac × Bool} {s : List Ac × List Int} {m : Int} {a : Ac} (h : f (acAt s.1 m) = (a, false)) : dlv1 f s m = s := by simp [dlv1, h]
/-- The members that answer, and their new states. -/
def said (f : Ac → Ac × Bool) (ms : List Int) (ac : List Ac) : List Int := ms.filter fun m => (f (acAt ac m)).2
def upd (f : Ac → Ac × Bool) (ms : List Int) (ac : List Ac) : List Ac := (List.range ac.length).map fun i : Nat => if has ms ((i : Int) + 1) && (f (ac.getD i (0, 0, 0))).2 then (f (ac.getD i (0, 0, 0))).1 else ac.getD i (0, 0, 0)
theorem upd_len (f : Ac → Ac × Bool) (ms : List Int) (ac : List Ac) : (upd f ms ac).length = ac.length := by simp [upd]
theorem upd_nil (f : Ac → Ac × Bool) (ac : List Ac) : upd f [] ac = ac := by
  apply List.ext_getElem?
  intro i
  rcases Nat.lt_or_ge i ac.length with h | h
  · simp [upd, h, has]
  · simp [upd, h]
theorem upd_at (f : Ac → Ac × Bool) (ms : List Int) (ac : List Ac) {m : Int} (h1 : 1 ≤ m) (h2 : m.toNat - 1 < ac.length) : acAt (upd f ms ac) m = if has ms m && (f (acAt ac m)).2 then (f (acAt ac m)).1 else acAt ac m := by
  have e : ((m.toNat - 1 : Nat) : Int) + 1 = m := by omega
  simp [acAt, upd, List.getD, h2, e]
theorem vld_snoc_fresh : ∀ l ∈ allSets, ∀ k : Fin 7, ∀ m, l[k.val]? = some m → has (l.take k.val) m = false ∧ 1 ≤ m ∧ m ≤ 6 := by
  intro l hl k m h
  have H : ∀ l ∈ allSets, ∀ k : Fin 7, (match l[k.val]? with | some m => !(has (l.take k.val) m) && decide (1 ≤ m ∧ m ≤ 6) | none => true) = true := by decide +kernel
  have := H l hl k
  rw [h] at this
  simpa using this
theorem fresh {l : List Int} (hv : vld l = true) {k : Nat} {m : Int} (h : l[k]? = some m) : has (l.take k) m = false ∧ 1 ≤ m ∧ m ≤ 6 := by
  have hk : k < l.length := (List.getElem?_eq_some_iff.1 h).1
  exact vld_snoc_fresh l (vld_all hv) ⟨k, by have := vld_len hv; omega⟩ m h
theorem upd_snoc {f : Ac → Ac × Bool} {ms : List Int} {m : Int} {ac : List Ac} (hm : has ms m = false) (h1 : 1 ≤ m) (h2 : m.toNat - 1 < ac.length) :
    upd f (ms ++ [m]) ac = if (f (acAt ac m)).2 then (upd f ms ac).set (m.toNat - 1) (f (acAt ac m)).1 else upd f ms ac := by
  have e : ((m.toNat - 1 : Nat) : Int) + 1 = m := by omega
  have hsp : ∀ x : Int, has (ms ++ [m]) x = (has ms x || x == m) := by intro x; rw [Bool.eq_iff_iff]; simp [has]
  apply List.ext_getElem?
  intro i
  have hu : ∀ (ns : List Int) (i : Nat), i < ac.length → (upd f ns ac)[i]? = some (if has ns ((i : Int) + 1) && (f (ac.getD i (0, 0, 0))).2 then (f (ac.getD i (0, 0, 0))).1 else ac.getD i (0, 0, 0)) := by intro ns i hi; simp [upd, hi]
  rcases Nat.lt_or_ge i ac.length with hi | hi
  · rw [hu _ i hi, hsp]
    by_cases em : ((i : Int) + 1) = m
    · have ei : m.toNat - 1 = i := by omega
      have ea : ac.getD i (0, 0, 0) = acAt ac m := by simp [acAt, ei]
      rw [em, hm, ea]
      cases hf : (f (acAt ac m)).2
      · simp only [Bool.and_false, if_false, Bool.false_eq_true]
        rw [hu _ i hi, em, hm, ea]
        simp
      · simp only [if_true, BEq.rfl, Bool.false_or, Bool.and_self]
        rw [List.getElem?_set, if_pos ei, if_pos (by rw [upd_len]; omega)]
    · have eb : (((i : Int) + 1) == m) = false := by simpa using em
      rw [eb, Bool.or_false]
      cases hf : (f (acAt ac m)).2
      · simp only [if_false, Bool.false_eq_true]
        rw [hu _ i hi]
      · simp only [if_true]
        rw [List.getElem?_set, if_neg (show ¬ m.toNat - 1 = i by omega), hu _ i hi]
  · rw [List.getElem?_eq_none (by rw [upd_len]; exact hi)]
    symm
    apply List.getElem?_eq_none
    split
    · rw [List.length_set, upd_len]; exact hi
    · rw [upd_len]; exact hi
theorem dlv_take {f : Ac → Ac × Bool} {ms : List Int} {ac : List Ac} (hv : vld ms = true) (hl : ac.length = 6) : ∀ k, k ≤ ms.length → dlv f (ms.take k) ac = (upd f (ms.take k) ac, said f (ms.take k) ac) := by
  intro k
  induction k with
  | zero => intro _; simp [dlv, said, upd_nil]
  | succ k ih =>
    intro hk
    have hx : ms[k]? = some ms[k] := List.getElem?_eq_getElem (by omega)
    obtain ⟨f1, f2, f3⟩ := fresh hv hx
    have hn : ms[k].toNat - 1 < ac.length := by omega
    have e : acAt (upd f (ms.take k) ac) ms[k] = acAt ac ms[k] := by rw [upd_at _ _ _ f2 hn, f1]; simp
    rw [dlv_step f hx, ih (by omega)]
    have et : ms.take (k + 1) = ms.take k ++ [ms[k]] := by rw [List.take_add_one, hx]; rfl
    rw [et, upd_snoc f1 f2 hn]
    unfold dlv1
    simp only [e]
    have es : said f (ms.take k ++ [ms[k]]) ac = if (f (acAt ac ms[k])).2 then said f (ms.take k) ac ++ [ms[k]] else said f (ms.take k) ac := by
      unfold said
      rw [List.filter_append]
      cases hf : (f (acAt ac ms[k])).2 <;> simp [hf]
    rw [es]
    cases hf : (f (acAt ac ms[k])).2 <;> simp
theorem dlv_eq {f : Ac → Ac × Bool} {ms : List Int} {ac : List Ac} (hv : vld ms = true) (hl : ac.length = 6) : dlv f ms ac = (upd f ms ac, said f ms ac) := by
  have := dlv_take (f := f) hv hl ms.length (Nat.le_refl _)
  rwa [List.take_length] at this
theorem vld_filter {l : List Int} (h : vld l = true) (p : Int → Bool) : vld (l.filter p) = true := by
  have e : l.filter p = fil fun x => has l x && p x := by
    have := fil_has h
    unfold fil at *
    conv => lhs; rw [← this]
    rw [List.filter_filter]
    congr 1
    funext x
    exact Bool.and_comm _ _
  rw [e]
  exact vld_fil _
theorem said_vld {f : Ac → Ac × Bool} {ms : List Int} (h : vld ms = true) (ac : List Ac) : vld (said f ms ac) = true := vld_filter h _

/-! the phases -/
/-- A proposal at its place. -/
def insP (p : Pr) : List Pr → List Pr
  | [] => [p]
  | x :: t => if p.1 < x.1 then p :: x :: t else x :: insP p t
def prep (r : Rn) (b v : Int) (ms : List Int) : Rn × Bool :=
  let d := dlv (fun a => prepA a b) ms r.ac
  if hasL r.P d.2 && (fnd r.pr b).isNone then (⟨r.P, r.Q, d.1, insP (b, (st (d.2.map (acAt d.1)) v).2, []) r.pr⟩, true) else (⟨r.P, r.Q, d.1, r.pr⟩, false)
def setV (pr : List Pr) (b : Int) (s : List Int) : List Pr := pr.map fun p => if p.1 == b then (p.1, p.2.1, s) else p
def acce (r : Rn) (b : Int) (ms : List Int) : Rn × Bool := match fnd r.pr b with
  | none => (r, false)
  | some p => let d := dlv (fun a => acceA a b p.2.1) ms r.ac; (⟨r.P, r.Q, d.1, setV r.pr b (union p.2.2 d.2)⟩, !d.2.isEmpty)
def newR (F G : List (List Int)) : Rn := ⟨F, G, List.replicate 6 (0, 0, 0), []⟩
/-- A step: kind, ballot, value, members. -/
abbrev Sp := Int × Int × Int × List Int
def stepOk (s : Sp) : Bool := okB s.2.1 && vld s.2.2.2 && (!(s.1 == 1) || okV s.2.2.1)
def stepR (r : Rn) (s : Sp) : Rn := if stepOk s then (if s.1 == 1 then (prep r s.2.1 s.2.2.1 s.2.2.2).1 else if s.1 == 2 then (acce r s.2.1 s.2.2.2).1 else r) else r
def runS (r : Rn) (l : List Sp) : Rn := l.foldl stepR r
theorem runS_step {l : List Sp} {k : Nat} {s : Sp} (h : l[k]? = some s) (r : Rn) : runS r (l.take (k + 1)) = stepR (runS r (l.take k)) s := by
  rw [List.take_add_one, h]
  simp [runS]
def chosen (r : Rn) : List Int := ((List.range 99).map fun i : Nat => ((i + 1 : Nat) : Int)).filter fun v => r.pr.any fun p => p.2.1 == v && hasL r.Q p.2.2

/-! consistency is kept -/
theorem okA_iff {a : Ac} : a.ok = true ↔ 0 ≤ a.2.1 ∧ a.2.1 ≤ a.1 ∧ a.1 ≤ 20 ∧ ((a.2.1 = 0 ∧ a.2.2 = 0) ∨ (0 < a.2.1 ∧ 1 ≤ a.2.2 ∧ a.2.2 ≤ 99)) := by simp [Ac.ok, okA]
theorem six_iff {m : Int} : m ∈ six ↔ 1 ≤ m ∧ m ≤ 6 := by simp [six]; omega
theorem seats_at {ac : List Ac} {pr : List Pr} (h : seatsOk ac pr = true) {m : Int} (hm : m ∈ six) : seatOk pr m (acAt ac m) = true := List.all_eq_true.1 h m hm
theorem seats_of {ac : List Ac} {pr : List Pr} (h : ∀ m ∈ six, seatOk pr m (acAt ac m) = true) : seatsOk ac pr = true := List.all_eq_true.2 h
theorem seat_iff {pr : List Pr} {m : Int} {a : Ac} : seatOk pr m a = true ↔ a.ok = true ∧ (∀ p ∈ pr, has p.2.2 m = true → p.1 ≤ a.2.1) ∧ (a.2.1 ≠ 0 → ∃ p ∈ pr, p.1 = a.2.1 ∧ p.2.1 = a.2.2 ∧ has p.2.2 m = true) := by
  simp only [seatOk, votOk, accOk, Bool.and_eq_true, List.all_eq_true, Bool.or_eq_true, Bool.not_eq_true', beq_iff_eq, decide_eq_true_eq, List.any_eq_true, and_assoc]
  refine and_congr_right fun _ => and_congr ⟨fun h p hp hh => (h p hp).resolve_left (by simp [hh]), fun h p hp => ?_⟩ ⟨fun h hne => h.resolve_left hne, fun h => ?_⟩
  · cases e : has p.2.2 m
    · exact .inl rfl
    · exact .inr (h p hp e)
  · by_cases e : a.2.1 = 0
    · exact .inl e
    · exact .inr (h e)
theorem allA_of {r : Rn} (h : runOk r = true) : allA r.ac = true := by
  obtain ⟨_, h2, _, h4⟩ := runOk_parts h
  refine List.all_eq_true.2 fun a ha => ?_
  obtain ⟨i, hi, e⟩ := List.getElem_of_mem ha
  have := (seat_iff.1 (seats_at h4 (m := (i : Int) + 1) (six_iff.2 (by omega)))).1
  have e2 : acAt r.ac ((i : Int) + 1) = a := by
    simp [acAt, List.getD, hi, e]
  rwa [e2] at this
theorem insP_mem {p x : Pr} : ∀ {l : List Pr}, x ∈ insP p l ↔ x = p ∨ x ∈ l
  | [] => by simp [insP]
  | y :: t => by
    unfold insP
    split
    · simp
    · simp only [List.mem_cons, insP_mem (l := t)]
      constructor
      · rintro (h | h | h)
        · exact .inr (.inl h)
        · exact .inl h
        · exact .inr (.inr h)
      · rintro (h | h | h)
        · exact .inr (.inl h)
        · exact .inl h
        · exact .inr (.inr h)
theorem insP_asc {p : Pr} : ∀ {l : List Pr}, l.Pairwise (fun a b => a.1 < b.1) → (∀ x ∈ l, x.1 ≠ p.1) → (insP p l).Pairwise fun a b => a.1 < b.1
  | [], _, _ => by simp [insP]
  | y :: t, h, hn => by
    obtain ⟨a, b⟩ := List.pairwise_cons.1 h
    unfold insP
    split
    · rename_i hlt
      refine List.pairwise_cons.2 ⟨fun x hx => ?_, h⟩
      rcases List.mem_cons.1 hx with e | hx
      · rw [e]; exact hlt
      · have := a x hx; omega
    · rename_i hlt
      refine List.pairwise_cons.2 ⟨fun x hx => ?_, insP_asc b fun x hx => hn x (by simp [hx])⟩
      rcases insP_mem.1 hx with e | hx
      · rw [e]; have := hn y (by simp); omega
      · exact a x hx
theorem insP_len (p : Pr) : ∀ l : List Pr, (insP p l).length = l.length + 1
  | [] => rfl
  | x :: t => by
    unfold insP
    split
    · simp
    · simp [insP_len p t]
theorem insP_prOk {p : Pr} {l : List Pr} (h : prOk 0 l = true) (hn : fnd l p.1 = none) (hp : 0 < p.1 ∧ p.1 ≤ 20 ∧ okV p.2.1 = true ∧ vld p.2.2 = true) : prOk 0 (insP p l) = true :=
  prOk_of (insP_asc (prOk_asc h) (fnd_none.1 hn)) fun x hx => by
    rcases insP_mem.1 hx with e | hx
    · rw [e]; exact hp
    · exact prOk_mem h x hx
theorem setV_mem {l : List Pr} {b : Int} {s : List Int} {x : Pr} : x ∈ setV l b s ↔ ∃ p ∈ l, x = if p.1 = b then (p.1, p.2.1, s) else p := by
  simp only [setV, List.mem_map, beq_iff_eq]
  exact ⟨fun ⟨p, h1, h2⟩ => ⟨p, h1, h2.symm⟩, fun ⟨p, h1, h2⟩ => ⟨p, h1, h2.symm⟩⟩
theorem setV_asc {l : List Pr} {b : Int} {s : List Int} (h : l.Pairwise fun a b => a.1 < b.1) : (setV l b s).Pairwise fun a b => a.1 < b.1 := by
  refine List.pairwise_map.2 (h.imp fun {x y} hxy => ?_)
  by_cases e1 : x.1 == b <;> by_cases e2 : y.1 == b <;> simp [e1, e2] <;> exact hxy
theorem setV_prOk {l : List Pr} {b : Int} {s : List Int} (h : prOk 0 l = true) (hs : vld s = true) : prOk 0 (setV l b s) = true :=
  prOk_of (setV_asc (prOk_asc h)) fun x hx => by
    obtain ⟨p, hp, e⟩ := setV_mem.1 hx
    have := prOk_mem h p hp
    rw [e]
    split
    · exact ⟨this.1, this.2.1, this.2.2.1, hs⟩
    · exact this
theorem has_said {f : Ac → Ac × Bool} {ms : List Int} {ac : List Ac} {m : Int} : has (said f ms ac) m = (has ms m && (f (acAt ac m)).2) := by
  rw [Bool.eq_iff_iff]
  simp [has, said]
theorem upd_seat {f : Ac → Ac × Bool} {ms : List Int} {ac : List Ac} (hl : ac.length = 6) {m : Int} (hm : m ∈ six) : acAt (upd f ms ac) m = if has (said f ms ac) m then (f (acAt ac m)).1 else acAt ac m := by
  have := six_iff.1 hm
  rw [upd_at _ _ _ (by omega) (by omega), has_said]
theorem prepA_said {a : Ac} {b : Int} (h : (prepA a b).2 = true) : (prepA a b).1 = (b, a.2.1, a.2.2) ∧ a.1 < b := by
  unfold prepA at *
  split at h
  · cases h
  · rename_i hh; rw [if_neg hh]; exact ⟨rfl, by omega⟩
theorem acceA_said {a : Ac} {b v : Int} (h : (acceA a b v).2 = true) : (acceA a b v).1 = (b, b, v) ∧ a.1 ≤ b := by
  unfold acceA at *
  split at h
  · cases h
  · rename_i hh; rw [if_neg hh]; exact ⟨rfl, by omega⟩
/-- The states behind a prepare phase. -/
theorem prep_seat {r : Rn} (h : runOk r = true) {b : Int} (hb : okB b = true) (ms : List Int) {m : Int} (hm : m ∈ six) : seatOk r.pr m (acAt (upd (fun a => prepA a b) ms r.ac) m) = true := by
  obtain ⟨_, h2, h3, h4⟩ := runOk_parts h
  have hs := seat_iff.1 (seats_at h4 hm)
  rw [upd_seat h2 hm]
  cases e : has (said (fun a => prepA a b) ms r.ac) m
  · exact seats_at h4 hm
  · rw [has_said, Bool.and_eq_true] at e
    obtain ⟨e1, e2⟩ := prepA_said e.2
    have hok := okA_iff.1 hs.1
    rw [if_pos rfl, e1]
    refine seat_iff.2 ⟨okA_iff.2 ?_, hs.2.1, hs.2.2⟩
    simp [okB] at hb
    show 0 ≤ (acAt r.ac m).2.1 ∧ (acAt r.ac m).2.1 ≤ b ∧ b ≤ 20 ∧ _
    exact ⟨hok.1, by omega, hb.2, hok.2.2.2⟩
theorem seat_ins {pr : List Pr} {m : Int} {a : Ac} {p : Pr} (h : seatOk pr m a = true) (hp : p.2.2 = []) : seatOk (insP p pr) m a = true := by
  obtain ⟨h1, h2, h3⟩ := seat_iff.1 h
  refine seat_iff.2 ⟨h1, fun x hx hh => ?_, fun hne => ?_⟩
  · rcases insP_mem.1 hx with e | hx
    · rw [e, hp] at hh; simp [has] at hh
    · exact h2 x hx hh
  · obtain ⟨x, hx, hh⟩ := h3 hne
    exact ⟨x, insP_mem.2 (.inr hx), hh⟩
theorem st_okV {l : List Ac} {own : Int} (h : allA l = true) (ho : okV own = true) : okV (st l own).2 = true := by
  have key : ∀ n, n ≤ l.length → 0 ≤ (st (l.take n) own).1 ∧ okV (st (l.take n) own).2 = true := by
    intro n
    induction n with
    | zero => intro _; exact ⟨Int.le_refl _, ho⟩
    | succ n ih =>
      intro hn
      obtain ⟨i0, ih⟩ := ih (by omega)
      have hx : l[n]? = some l[n] := List.getElem?_eq_getElem (by omega)
      have hok : (l[n]).ok = true := List.all_eq_true.1 h _ (List.getElem_mem _)
      rw [show l.take (n + 1) = l.take n ++ [l[n]] by rw [List.take_add_one, hx]; rfl, st_snoc]
      unfold st1
      split
      · rename_i hlt
        have := okA_iff.1 hok
        refine ⟨by show 0 ≤ (l[n]).2.1; omega, ?_⟩
        simp [okV]
        omega
      · exact ⟨i0, ih⟩
  have := (key l.length (Nat.le_refl _)).2
  rwa [List.take_length] at this
theorem all_acAt {ac : List Ac} (h : allA ac = true) (l : List Int) : allA (l.map (acAt ac)) = true := by
  refine List.all_eq_true.2 fun a ha => ?_
  obtain ⟨m, _, rfl⟩ := List.mem_map.1 ha
  unfold acAt
  rcases Nat.lt_or_ge (m.toNat - 1) ac.length with hl | hl
  · rw [show ac.getD (m.toNat - 1) (0, 0, 0) = ac[m.toNat - 1] by simp [List.getD, hl]]
    exact List.all_eq_true.1 h _ (List.getElem_mem _)
  · rw [show ac.getD (m.toNat - 1) (0, 0, 0) = (0, 0, 0) by simp [List.getD, hl]]
    rfl
theorem allA_seats {ac : List Ac} {pr : List Pr} (hl : ac.length = 6) (h : ∀ m ∈ six, seatOk pr m (acAt ac m) = true) : allA ac = true := by
  refine List.all_eq_true.2 fun a ha => ?_
  obtain ⟨i, hi, e⟩ := List.getElem_of_mem ha
  have := (seat_iff.1 (h ((i : Int) + 1) (six_iff.2 (by omega)))).1
  have e2 : acAt ac ((i : Int) + 1) = a := by
    simp [acAt, List.getD, hi, e]
  rwa [e2] at this
theorem prep_ok {r : Rn} (h : runOk r = true) {b v : Int} (hb : okB b = true) (hv : okV v = true) {ms : List Int} (hm : vld ms = true) : runOk (prep r b v ms).1 = true := by
  obtain ⟨h1, h2, h3, h4⟩ := runOk_parts h
  have hs := fun m hm => prep_seat h hb ms (m := m) hm
  have hl : (upd (fun a => prepA a b) ms r.ac).length = 6 := by rw [upd_len, h2]
  unfold prep
  rw [dlv_eq hm h2]
  simp only
  split
  · rename_i hc
    rw [Bool.and_eq_true, Option.isNone_iff_eq_none] at hc
    refine runOk_of h1 hl (insP_prOk h3 hc.2 ?_) (seats_of fun m hm => seat_ins (hs m hm) rfl)
    simp [okB] at hb
    exact ⟨by show 0 < b; omega, hb.2, st_okV (all_acAt (allA_seats hl hs) _) hv, rfl⟩
  · exact runOk_of h1 hl h3 (seats_of hs)
theorem acce_ok {r : Rn} (h : runOk r = true) {b : Int} (hb : okB b = true) {ms : List Int} (hm : vld ms = true) : runOk (acce r b ms).1 = true := by
  obtain ⟨h1, h2, h3, h4⟩ := runOk_parts h
  unfold acce
  cases e : fnd r.pr b with
  | none => exact h
  | some p =>
    obtain ⟨p1, p2⟩ := fnd_some e
    obtain ⟨_, _, pv, ps⟩ := prOk_mem h3 p p1
    simp only
    rw [dlv_eq hm h2]
    have hl : (upd (fun a => acceA a b p.2.1) ms r.ac).length = 6 := by rw [upd_len, h2]
    refine runOk_of h1 hl (setV_prOk h3 (vld_un _ _)) (seats_of fun m hm6 => ?_)
    have hs := seat_iff.1 (seats_at h4 hm6)
    have hok := okA_iff.1 hs.1
    rw [upd_seat h2 hm6]
    cases ea : has (said (fun a => acceA a b p.2.1) ms r.ac) m
    · refine seat_iff.2 ⟨hs.1, fun x hx hh => ?_, fun hne => ?_⟩
      · obtain ⟨y, hy, ey⟩ := setV_mem.1 hx
        by_cases eb : y.1 = b
        · rw [if_pos eb] at ey
          rw [ey] at hh ⊢
          have : y = p := asc_one (prOk_asc h3) y hy p p1 (by rw [eb, p2])
          simp only [has_un hm6, ea, Bool.or_false] at hh
          exact hs.2.1 y hy (by rw [this]; exact hh)
        · rw [if_neg eb] at ey
          rw [ey] at hh ⊢
          exact hs.2.1 y hy hh
      · obtain ⟨x, hx, x1, x2, x3⟩ := hs.2.2 hne
        by_cases eb : x.1 = b
        · refine ⟨_, setV_mem.2 ⟨x, hx, rfl⟩, ?_⟩
          rw [if_pos eb]
          have : x = p := asc_one (prOk_asc h3) x hx p p1 (by rw [eb, p2])
          exact ⟨x1, x2, by simp only [has_un hm6]; rw [← this, x3]; rfl⟩
        · exact ⟨x, setV_mem.2 ⟨x, hx, by rw [if_neg eb]⟩, x1, x2, x3⟩
    · have ea2 := ea
      rw [has_said, Bool.and_eq_true] at ea
      obtain ⟨e1, e2⟩ := acceA_said ea.2
      rw [if_pos rfl, e1]
      simp [okB] at hb
      simp [okV] at pv
      refine seat_iff.2 ⟨okA_iff.2 ⟨by show 0 ≤ b; omega, Int.le_refl _, hb.2, .inr ⟨by show 0 < b; omega, pv⟩⟩, fun x hx hh => ?_, fun _ => ?_⟩
      · show x.1 ≤ b
        obtain ⟨y, hy, ey⟩ := setV_mem.1 hx
        by_cases eb : y.1 = b
        · rw [if_pos eb] at ey
          rw [ey]; exact Int.le_of_eq eb
        · rw [if_neg eb] at ey
          rw [ey] at hh ⊢
          have := hs.2.1 y hy hh
          omega
      · refine ⟨_, setV_mem.2 ⟨p, p1, rfl⟩, ?_⟩
        rw [if_pos p2]
        exact ⟨p2, rfl, by simp only [has_un hm6, ea2, Bool.or_true]⟩
theorem rv_no {r : Rn} (h : runOk r = true → False) : runOk r = false := by rw [Bool.eq_false_iff]; exact h
theorem newR_ok {F G : List (List Int)} : runOk (newR F G) = cmpOk F G := by
  have : seatsOk (List.replicate 6 (0, 0, 0)) [] = true := by decide +kernel
  unfold runOk newR
  simp only
  rw [this]
  simp [prOk]
theorem stepR_ok {r : Rn} (h : runOk r = true) (s : Sp) : runOk (stepR r s) = true := by
  unfold stepR
  split
  · rename_i hs
    simp only [stepOk, Bool.and_eq_true, Bool.or_eq_true, Bool.not_eq_true'] at hs
    split
    · rename_i h1
      exact prep_ok h hs.1.1 (hs.2.resolve_left (by simp [h1])) hs.1.2
    · split
      · exact acce_ok h hs.1.1 hs.1.2
      · exact h
  · exact h
theorem runS_ok {r : Rn} (h : runOk r = true) : ∀ l : List Sp, runOk (runS r l) = true := by
  intro l
  induction l generalizing r with
  | nil => exact h
  | cons s l ih => exact ih (stepR_ok h s)
end Go.Proofs.Ytbkdhjmfphhhoaa

/- What is chosen, as the program finds it: collected by ballots, sorted, and each value once. -/
namespace Go.Proofs.Ytbkdhjmfphhhoaa

theorem compact_spec (d : Array Int) (hs : ∀ i j, i < j → j < d.size → d[i]! ≤ d[j]!) : ∀ m, m ≤ d.size → (Lib.compactUpTo d m).Pairwise (· < ·) ∧ ∀ x, x ∈ Lib.compactUpTo d m ↔ ∃ j, j < m ∧ d[j]! = x := by
  intro m
  induction m with
  | zero => intro _; exact ⟨by simp [Lib.compactUpTo], fun x => by simp [Lib.compactUpTo]⟩
  | succ m ih =>
    intro hm
    obtain ⟨i1, i2⟩ := ih (by omega)
    rw [Lib.compactUpTo_succ]
    cases hk : Lib.keeps d m
    · have h0 : m ≠ 0 ∧ d[m]! = d[m - 1]! := by
        simp only [Lib.keeps, decide_eq_false_iff_not, not_or, Decidable.not_not] at hk
        exact hk
      refine ⟨by simpa using i1, fun x => ?_⟩
      simp only [Bool.false_eq_true, if_false, List.append_nil, i2]
      constructor
      · rintro ⟨j, h1, h2⟩; exact ⟨j, by omega, h2⟩
      · rintro ⟨j, h1, h2⟩
        by_cases e : j = m
        · exact ⟨m - 1, by omega, by rw [← h2, e, h0.2]⟩
        · exact ⟨j, by omega, h2⟩
    · refine ⟨?_, fun x => ?_⟩
      · simp only [if_true]
        refine List.pairwise_append.2 ⟨i1, by simp, fun a ha b hb => ?_⟩
        obtain ⟨j, h1, h2⟩ := (i2 a).1 ha
        rw [List.mem_singleton] at hb
        rw [hb, ← h2]
        simp only [Lib.keeps, decide_eq_true_eq] at hk
        rcases hk with e | e
        · omega
        · have := hs (m - 1) m (by omega) (by omega)
          rcases Nat.lt_or_ge j (m - 1) with hj | hj
          · have := hs j (m - 1) hj (by omega)
            omega
          · have : j = m - 1 := by omega
            rw [this]; omega
      · simp only [if_true, List.mem_append, i2, List.mem_singleton]
        constructor
        · rintro (⟨j, h1, h2⟩ | h)
          · exact ⟨j, by omega, h2⟩
          · exact ⟨m, by omega, h.symm⟩
        · rintro ⟨j, h1, h2⟩
          by_cases e : j = m
          · right; rw [← h2, e]
          · exact .inl ⟨j, by omega, h2⟩
theorem compact_sorted {zs : List Int} (h : zs.Pairwise (· ≤ ·)) : (Lib.compact zs).Pairwise (· < ·) ∧ ∀ x, x ∈ Lib.compact zs ↔ x ∈ zs := by
  have hs : ∀ i j, i < j → j < zs.toArray.size → zs.toArray[i]! ≤ zs.toArray[j]! := by
    intro i j hij hj
    have hj' : j < zs.length := by simpa using hj
    have := List.pairwise_iff_getElem.1 h i j (by omega) hj' hij
    simpa [getElem!_pos, hj', show i < zs.length by omega] using this
  obtain ⟨h1, h2⟩ := compact_spec zs.toArray hs zs.length (by simp)
  refine ⟨h1, fun x => ?_⟩
  rw [Lib.compact, h2]
  constructor
  · rintro ⟨j, hj, e⟩
    have : zs.toArray[j]! = zs[j] := by simp [hj]
    rw [← e, this]
    exact List.getElem_mem _
  · intro hx
    obtain ⟨j, hj, e⟩ := List.getElem_of_mem hx
    exact ⟨j, hj, by simp [hj, e]⟩
theorem asc_int {a b : List Int} (ha : a.Pairwise (· < ·)) (hb : b.Pairwise (· < ·)) (h : ∀ m, m ∈ a ↔ m ∈ b) : a = b := by
  induction a generalizing b with
  | nil =>
    cases b with
    | nil => rfl
    | cons y b => exact absurd ((h y).2 (by simp)) (by simp)
  | cons x a ih =>
    cases b with
    | nil => exact absurd ((h x).1 (by simp)) (by simp)
    | cons y b =>
      rw [List.pairwise_cons] at ha hb
      have hxy : x = y := by
        rcases List.mem_cons.1 ((h x).1 (by simp)) with e | e
        · exact e
        · rcases List.mem_cons.1 ((h y).2 (by simp)) with e2 | e2
          · exact e2.symm
          · have := hb.1 x e; have := ha.1 y e2; omega
      subst hxy
      congr 1
      refine ih ha.2 hb.2 fun m => ?_
      have hm := h m
      constructor
      · intro hma
        rcases List.mem_cons.1 (hm.1 (by simp [hma])) with e | e
        · subst e; exact absurd (ha.1 m hma) (by omega)
        · exact e
      · intro hmb
        rcases List.mem_cons.1 (hm.2 (by simp [hmb])) with e | e
        · subst e; exact absurd (hb.1 m hmb) (by omega)
        · exact e
/-- The values of the ballots below k whose votes have a quorum. -/
def valB (K : List Nat) (tl : List Tl) (b : Nat) : List Int := if hasQ K (tl.getD b (0, 0)).2 then [(tl.getD b (0, 0)).1] else []
def valTo (K : List Nat) (tl : List Tl) (k : Nat) : List Int := (List.range k).flatMap (valB K tl)
theorem valTo_succ (K : List Nat) (tl : List Tl) (k : Nat) : valTo K tl (k + 1) = valTo K tl k ++ valB K tl k := by simp [valTo, List.range_succ]
theorem valTo_len (K : List Nat) (tl : List Tl) (k : Nat) : (valTo K tl k).length ≤ k := by
  induction k with
  | zero => simp [valTo]
  | succ k ih =>
    rw [valTo_succ, List.length_append]
    have : (valB K tl k).length ≤ 1 := by unfold valB; split <;> simp
    omega
theorem hasQ_none0 {K : List Nat} (h : ∀ q ∈ K, 0 < q) (hm : Msk K) : hasQ K 0 = false := by
  rw [Bool.eq_false_iff]
  intro hh
  obtain ⟨q, hq, hs⟩ := mem_hasQ.1 hh
  have := sub_le (hm q hq) (by omega) hs
  have := h q hq
  omega
theorem chosen_asc (r : Rn) : (chosen r).Pairwise (· < ·) := by
  refine List.Pairwise.filter _ (List.pairwise_map.2 (List.pairwise_lt_range.imp fun {a b} h => ?_))
  show ((a + 1 : Nat) : Int) < ((b + 1 : Nat) : Int)
  omega
theorem mem_chosen {r : Rn} (h : prOk 0 r.pr = true) {v : Int} : v ∈ chosen r ↔ ∃ p ∈ r.pr, p.2.1 = v ∧ hasL r.Q p.2.2 = true := by
  simp only [chosen, List.mem_filter, List.mem_map, List.mem_range, List.any_eq_true, Bool.and_eq_true, beq_iff_eq]
  constructor
  · rintro ⟨_, p, h1, h2, h3⟩; exact ⟨p, h1, h2, h3⟩
  · rintro ⟨p, h1, h2, h3⟩
    have := (prOk_mem h p h1).2.2.1
    simp [okV] at this
    exact ⟨⟨(v - 1).toNat, by omega, by omega⟩, p, h1, h2, h3⟩
theorem chosen_eq {r : Rn} (h : runOk r = true) : Lib.compact ((valTo (msks r.Q) (tlOf r.pr) 21).mergeSort fun x y => decide (x ≤ y)) = chosen r := by
  obtain ⟨h1, _, h3, _⟩ := runOk_parts h
  have hq := (cmpOk_parts h1).2.1
  have hV := famOk_allV hq
  have hS := famOk_sys hq
  have hsort : ((valTo (msks r.Q) (tlOf r.pr) 21).mergeSort fun x y => decide (x ≤ y)).Pairwise (· ≤ ·) := by
    have := List.pairwise_mergeSort (le := fun (x y : Int) => decide (x ≤ y)) (by intro a b c; simp; omega) (by intro a b; simp; omega) (valTo (msks r.Q) (tlOf r.pr) 21)
    exact this.imp fun h => by simpa using h
  obtain ⟨c1, c2⟩ := compact_sorted hsort
  refine asc_int c1 (chosen_asc r) fun v => ?_
  rw [c2, List.mem_mergeSort, mem_chosen h3]
  simp only [valTo, List.mem_flatMap, List.mem_range]
  constructor
  · rintro ⟨b, hb, hv⟩
    unfold valB at hv
    rw [tlB_getD _ hb] at hv
    split at hv
    · rename_i hh
      rw [List.mem_singleton] at hv
      unfold tlB at hh hv
      cases e : fnd r.pr (b : Int) with
      | none =>
        rw [e] at hh
        have h0 := hasQ_none0 hS.2.2.2 (msks_msk hV)
        simp only at hh
        rw [h0] at hh
        cases hh
      | some p =>
        rw [e] at hh hv
        obtain ⟨p1, p2⟩ := fnd_some e
        exact ⟨p, p1, hv.symm, by rw [hasL_eq hV (prOk_mem h3 p p1).2.2.2]; exact hh⟩
    · exact absurd hv List.not_mem_nil
  · rintro ⟨p, p1, p2, p3⟩
    obtain ⟨q0, q1, _, q2⟩ := prOk_mem h3 p p1
    have e : ((p.1.toNat : Nat) : Int) = p.1 := by omega
    refine ⟨p.1.toNat, by omega, ?_⟩
    unfold valB
    rw [tlB_getD _ (by omega), e, tlB, fnd_mem (prOk_asc h3) p1]
    simp only
    rw [← hasL_eq hV q2, p3, if_pos rfl, p2]
    simp
end Go.Proofs.Ytbkdhjmfphhhoaa

/- Proposals in memory: rows of three cells whose third is a row of votes. -/
namespace Go.Proofs.Ytbkdhjmfphhhoaa
open Go.RowKit

/-- The cells of a list of proposals whose votes lie at vs. -/
def pcs : List Pr → List Value → List Value
  | p :: l, v :: vs => .int .i64 p.1 :: .int .i64 p.2.1 :: v :: pcs l vs
  | _, _ => []
def pvs (l : List Pr) : List (List Int) := l.map fun p => p.2.2
theorem pvs_len (l : List Pr) : (pvs l).length = l.length := by simp [pvs]
theorem pvs_at {l : List Pr} {k : Nat} {p : Pr} (h : l[k]? = some p) : (pvs l)[k]? = some p.2.2 := by simp [pvs, h]
theorem pvs_take (l : List Pr) (k : Nat) : pvs (l.take k) = (pvs l).take k := by simp [pvs, List.map_take]
theorem pvs_app (l m : List Pr) : pvs (l ++ m) = pvs l ++ pvs m := by simp [pvs]
theorem pcs_len : ∀ {l : List Pr} {vs : List Value}, vs.length = l.length → (pcs l vs).length = l.length * 3
  | [], _, _ => rfl
  | p :: l, [], h => by simp at h
  | p :: l, v :: vs, h => by
    have := pcs_len (l := l) (vs := vs) (by simpa using h)
    simp [pcs, this]
    omega
theorem pcs_at : ∀ {l : List Pr} {vs : List Value} {k : Nat} {p : Pr} {v : Value}, l[k]? = some p → vs[k]? = some v → (pcs l vs)[k * 3]? = some (.int .i64 p.1) ∧ (pcs l vs)[k * 3 + 1]? = some (.int .i64 p.2.1) ∧ (pcs l vs)[k * 3 + 2]? = some v
  | [], _, k, p, v, h, _ => by simp at h
  | q :: l, [], k, p, v, _, h => by simp at h
  | q :: l, u :: vs, 0, p, v, h, h2 => by simp at h h2; subst h h2; simp [pcs]
  | q :: l, u :: vs, k + 1, p, v, h, h2 => by
    have := pcs_at (l := l) (vs := vs) (k := k) (by simpa using h) (by simpa using h2)
    rw [pcs, show (k + 1) * 3 = k * 3 + 1 + 1 + 1 by omega]
    simpa using this
theorem pcs_snoc : ∀ {l : List Pr} {vs : List Value} (p : Pr) (v : Value), vs.length = l.length → pcs (l ++ [p]) (vs ++ [v]) = pcs l vs ++ [.int .i64 p.1, .int .i64 p.2.1, v]
  | [], [], p, v, _ => rfl
  | [], u :: vs, p, v, h => by simp at h
  | q :: l, [], p, v, h => by simp at h
  | q :: l, u :: vs, p, v, h => by
    have := pcs_snoc (l := l) (vs := vs) p v (by simpa using h)
    simp [pcs, this]

/-- The slice at A reads as the list l of proposals. -/
def PL (w : World) (A : Option Addr) (l : List Pr) : Prop :=
  l = [] ∨ ∃ b off, A = some ⟨b, off, none⟩ ∧ b < w.heap.size ∧ ∀ k p, l[k]? = some p → w.cell? ⟨b, off + k * 3, none⟩ = some (.int .i64 p.1) ∧ w.cell? ⟨b, off + k * 3 + 1, none⟩ = some (.int .i64 p.2.1) ∧ ∃ B d, w.cell? ⟨b, off + k * 3 + 2, none⟩ = some (.slice B p.2.2.length d) ∧ IL w B p.2.2
theorem PL.at_ {w : World} {A : Option Addr} {l : List Pr} {k : Nat} (h : PL w A l) (hk : k < l.length) :
    ∃ b off p B d, A = some ⟨b, off, none⟩ ∧ l[k]? = some p ∧ w.cell? ⟨b, off + k * 3, none⟩ = some (.int .i64 p.1) ∧ w.cell? ⟨b, off + k * 3 + 1, none⟩ = some (.int .i64 p.2.1) ∧ w.cell? ⟨b, off + k * 3 + 2, none⟩ = some (.slice B p.2.2.length d) ∧ IL w B p.2.2 := by
  rcases h with rfl | ⟨b, off, rfl, _, hc⟩
  · simp at hk
  · obtain ⟨h0, h1, B, d, h2, h3⟩ := hc k l[k] (List.getElem?_eq_getElem hk)
    exact ⟨b, off, l[k], B, d, rfl, List.getElem?_eq_getElem hk, h0, h1, h2, h3⟩
theorem PL.below {w w' : World} {A : Option Addr} {l : List Pr} (h : PL w A l) (hb : Below w.heap.size w w') : PL w' A l := by
  rcases h with rfl | ⟨b, off, rfl, hlt, hc⟩
  · exact .inl rfl
  · refine .inr ⟨b, off, rfl, Nat.lt_of_lt_of_le hlt hb.size, fun k p hp => ?_⟩
    obtain ⟨h0, h1, B, d, h2, h3⟩ := hc k p hp
    exact ⟨(hb.cell (p := ⟨b, _, none⟩) hlt).trans h0, (hb.cell (p := ⟨b, _, none⟩) hlt).trans h1, B, d, (hb.cell (p := ⟨b, _, none⟩) hlt).trans h2, h3.below hb⟩
theorem PL.short {l : List Pr} {n : Nat} (h : Short (pvs l) n) {k : Nat} {p : Pr} (hp : l[k]? = some p) : p.2.2.length ≤ n := h.at_ (pvs_at hp)

/-- A row of proposals of the call's own, made when the heap had between lo and hi blocks. -/
def OPS (w : World) (lo hi : Nat) (A : Option Addr) (c : Nat) (l : List Pr) : Prop :=
  ∃ vs, w.ownsRow lo 49 3 (.slice A l.length c) l.length (pcs l vs) ∧ hi ≤ w.heap.size ∧ (∀ g, (Value.slice A l.length c).ownBlock = some g → lo ≤ g ∧ g < hi) ∧ Rws w lo hi (pvs l) vs
theorem pl_of {w : World} {lo hi base n c : Nat} {e : TypeId} {A : Option Addr} {l : List Pr} {vs : List Value} (h : Rws w lo hi (pvs l) vs) (ho : w.ownsRow base e 3 (.slice A n c) n (pcs l vs)) : PL w A l := by
  have hvl : vs.length = l.length := by rw [h.1, pvs_len]
  rcases ho.2 with ⟨h0, h1⟩ | ⟨g, cap, cur, hv, hb, hg, _⟩
  · left
    subst h1
    have h2 := ho.1
    rw [pcs_len hvl] at h2
    exact List.eq_nil_of_length_eq_zero (by omega)
  · injection hv with hA hn hcc
    subst hA
    refine .inr ⟨g, 0, rfl, (Array.getElem?_eq_some_iff.1 hg).1, fun k p hp => ?_⟩
    have hk : k < l.length := (List.getElem?_eq_some_iff.1 hp).1
    have hvk : vs[k]? = some vs[k] := List.getElem?_eq_getElem (by omega)
    obtain ⟨h0, h1, h2⟩ := pcs_at hp hvk
    obtain ⟨B, d, e', hoo⟩ := h.2.1 k _ _ (pvs_at hp) hvk
    have hc := fun j u hu => World.ownsRow.cells ho (g := g) rfl j u hu
    refine ⟨?_, ?_, B, d, ?_, hoo.il⟩
    · have := hc _ _ h0; rw [Addr.add_lit] at this; exact this
    · have := hc _ _ h1; rw [Addr.add_lit] at this; rw [Nat.add_assoc]; exact this
    · have := hc _ _ h2; rw [Addr.add_lit, e'] at this; rw [Nat.add_assoc]; exact this
theorem OPS.pl {w : World} {lo hi c : Nat} {A : Option Addr} {l : List Pr} (h : OPS w lo hi A c l) : PL w A l := by
  obtain ⟨vs, ho, _, _, hr⟩ := h
  exact pl_of hr ho
theorem OPS.hi_le {w : World} {lo hi c : Nat} {A : Option Addr} {l : List Pr} (h : OPS w lo hi A c l) : hi ≤ w.heap.size := by obtain ⟨_, _, hh, _⟩ := h; exact hh
theorem OPS.keep {w w' : World} {lo hi lo2 hi2 c : Nat} {A : Option Addr} {l : List Pr} (h : OPS w lo hi A c l) (k : Keep lo2 hi2 w w') (hd : hi ≤ lo2 ∨ hi2 ≤ lo) : OPS w' lo hi A c l := by
  obtain ⟨rs, ho, hh, hb, hr⟩ := h
  exact ⟨rs, own_at ho fun g hg => k.block g (by have := hb g hg; omega) (by have := hb g hg; omega), Nat.le_trans hh k.size, hb, hr.at_ (Nat.le_trans hh k.size) fun g h1 h2 _ => k.block g (by omega) (by omega)⟩
theorem OPS.below {w w' : World} {lo hi c : Nat} {A : Option Addr} {l : List Pr} (h : OPS w lo hi A c l) (hb : Below w.heap.size w w') : OPS w' lo hi A c l :=
  h.keep (Keep.of_below w.heap.size w.heap.size hb) (.inl h.hi_le)
theorem OPS.base {w : World} {lo lo2 hi c : Nat} {A : Option Addr} {l : List Pr} (h : OPS w lo hi A c l) (hl : lo2 ≤ lo) : OPS w lo2 hi A c l := by
  obtain ⟨rs, ho, hh, hb, hr⟩ := h
  refine ⟨rs, own_base ho hl, hh, fun g hg => ⟨Nat.le_trans hl (hb g hg).1, (hb g hg).2⟩, hr.1, fun j m v h1 h2 => ?_, hr.2.2⟩
  obtain ⟨A', c', e, o⟩ := hr.2.1 j m v h1 h2
  exact ⟨A', c', e, o.mono hl (Nat.le_refl _) hh⟩
theorem OPS.of_rows {w : World} {lo c : Nat} {A : Option Addr} {l : List Pr} {vs : List Value} (ho : w.ownsRow lo 49 3 (.slice A l.length c) l.length (pcs l vs)) (hr : Rws w lo w.heap.size (pvs l) vs) : OPS w lo w.heap.size A c l :=
  ⟨vs, ho, Nat.le_refl _, fun g hg => ho.lt g hg, hr⟩
theorem OPS.none (w : World) (lo : Nat) : OPS w lo w.heap.size none 0 [] := OPS.of_rows (vs := []) (World.ownsRow_nil _ _ _ _) (Rws.nil _ _ _)

/-- A proposal in a block of its own. -/
def PB (w : World) (b : Nat) (x y : Int) (v : Value) : Prop := ∃ T, w.heap[b]? = some (.cells #[.int .i64 x, .int .i64 y, v] T (0, 0))
section
variable {w w' : World} {b : Nat} {x y : Int} {v : Value}
theorem PB.lt (h : PB w b x y v) : b < w.heap.size := by obtain ⟨T, h⟩ := h; exact (Array.getElem?_eq_some_iff.1 h).1
theorem PB.fz (h : PB w b x y v) (j : Nat) : w.frozen? ⟨b, j, none⟩ = false := by obtain ⟨T, h⟩ := h; exact frozen_of_row w b j _ _ h
theorem PB.c0 (h : PB w b x y v) : w.cell? ⟨b, 0, none⟩ = some (.int .i64 x) := by obtain ⟨T, h⟩ := h; rw [cell_of_row w b 0 _ _ (0, 0) h]; rfl
theorem PB.c1 (h : PB w b x y v) : w.cell? ⟨b, 1, none⟩ = some (.int .i64 y) := by obtain ⟨T, h⟩ := h; rw [cell_of_row w b 1 _ _ (0, 0) h]; rfl
theorem PB.c2 (h : PB w b x y v) : w.cell? ⟨b, 2, none⟩ = some v := by obtain ⟨T, h⟩ := h; rw [cell_of_row w b 2 _ _ (0, 0) h]; rfl
theorem PB.kept (h : PB w b x y v) (hb : w'.heap[b]? = w.heap[b]?) : PB w' b x y v := by obtain ⟨T, h⟩ := h; exact ⟨T, hb.trans h⟩
theorem PB.below (h : PB w b x y v) (hb : Below w.heap.size w w') : PB w' b x y v := h.kept (hb.block b h.lt)
theorem PB.new (w : World) (x y : Int) (v : Value) (T : Nat) : PB (w.alloc (.cells #[.int .i64 x, .int .i64 y, v] T)) w.heap.size x y v := ⟨T, heap_alloc_new w _⟩
theorem PB.alloc (h : PB w b x y v) (o : Obj) : PB (w.alloc o) b x y v := h.kept (Below.heap_alloc w o b h.lt)
theorem PB.set0 (h : PB w b x y v) (z : Int) : PB (w.setCell ⟨b, 0, none⟩ (.int .i64 z)) b z y v := by
  obtain ⟨T, h⟩ := h
  refine ⟨T, ?_⟩
  rw [heap_setCell_same w b 0 _ _ _ h]
  rfl
theorem PB.set1 (h : PB w b x y v) (z : Int) : PB (w.setCell ⟨b, 1, none⟩ (.int .i64 z)) b x z v := by
  obtain ⟨T, h⟩ := h
  refine ⟨T, ?_⟩
  rw [heap_setCell_same w b 1 _ _ _ h]
  rfl
theorem PB.set2 (h : PB w b x y v) (z : Value) : PB (w.setCell ⟨b, 2, none⟩ z) b x y z := by
  obtain ⟨T, h⟩ := h
  refine ⟨T, ?_⟩
  rw [heap_setCell_same w b 2 _ _ _ h]
  rfl
end
theorem set_keep (w : World) (b j : Nat) (v : Value) : Keep b (b + 1) w (w.setCell ⟨b, j, none⟩ v) :=
  ⟨rfl, rfl, rfl, by simp [World.setCell], fun i _ hi => Below.heap_setCell _ _ _ _ (by show i ≠ b; omega)⟩
theorem set_size (w : World) (a : Addr) (v : Value) : (w.setCell a v).heap.size = w.heap.size := by simp [World.setCell]
end Go.Proofs.Ytbkdhjmfphhhoaa

/- The exact laws' helpers on proposals: compared, copied, counted, by their contracts. -/
namespace Go.Proofs.Ytbkdhjmfphhhoaa
open Go.RowKit

set_option maxRecDepth 100000 in
set_option maxHeartbeats 1600000 in
theorem eqPr_same (x y : Int) (B B' : Option Addr) (d d' : Nat) (s : List Int) (w : World) (hb : IL w B s) (hb' : IL w B' s) (hl : s.length ≤ 1048576) :
    Calls Try.prog 129 #[.agg #[.int .i64 x, .int .i64 y, .slice B s.length d], .agg #[.int .i64 x, .int .i64 y, .slice B' s.length d']] w fun e w' => e = .returned (.bool true) ∧ Below w.heap.size w w' := by
  have ba : Below w.heap.size w ((w.alloc (.cells #[.int .i64 x, .int .i64 y, .slice B s.length d] 49)).alloc (.cells #[.int .i64 x, .int .i64 y, .slice B' s.length d'] 49)) := ((Below.refl _ w).alloc (Nat.le_refl _) _).alloc (by simp) _
  go_enter Try.func129, Try.ntmps129
  go_wp2_with fail
  refine (eqIntS_yes _ _ _ _ _ _ (hb.below ba) (hb'.below ba) hl).mono ?_
  rintro e w1 ⟨rfl, b1⟩
  have HB := Lib.hid (below_step ba b1)
  clear ba b1
  go_wp2
  go_ret
  exact ⟨rfl, HB.out⟩

set_option maxRecDepth 100000 in
set_option maxHeartbeats 1600000 in
theorem eqPrS_yes (A B : Option Addr) (c d : Nat) (l : List Pr) (w : World) (ha : PL w A l) (hb : PL w B l) (hl : l.length ≤ 1048576) (hs : Short (pvs l) 1048576) :
    Calls Try.prog 87 #[.slice A l.length c, .slice B l.length d] w fun e w' => e = .returned (.bool true) ∧ Below w.heap.size w w' := by
  go_enter Try.func87, Try.ntmps87
  go_wp2
  go_loopw [5] (fun i wr => ∃ k : Nat, k ≤ l.length ∧ i = .int .i64 k ∧ Below w.heap.size w wr) (fun i _ => l.length - (intOf i).toNat)
  case atStart => exact ⟨0, Nat.zero_le _, rfl, Below.refl _ w⟩
  case round =>
    obtain ⟨k, hk, rfl, hbel⟩ := hrel
    by_cases hlt : k < l.length
    · obtain ⟨b, off, x, B1, d1, rfl, hx, c0, c1, c2, i1⟩ := (ha.below hbel).at_ hlt
      obtain ⟨b', off', x', B2, d2, rfl, hx', c0', c1', c2', i2⟩ := (hb.below hbel).at_ hlt
      obtain rfl : x = x' := by rw [hx] at hx'; exact Option.some.inj hx'
      have hsx := PL.short hs hx
      have hki : (0 : Int) ≤ (k : Int) := by omega
      have hki2 : (k : Int) < (l.length : Int) := by omega
      clear hx hx'
      obtain ⟨x0, x1, x2⟩ := x
      have C := fun n => eqPr_same x0 x1 B1 B2 d1 d2 x2 (wr.drewN n) (i1.below (below_drewN (Below.refl _ _) n)) (i2.below (below_drewN (Below.refl _ _) n)) hsx
      go_wp2
      go_region_law (first
        | (go_simp; go_at_call 129; refine (C _).mono ?_; rintro e w1 ⟨rfl, b1⟩; have B1' : Below wr.heap.size wr w1 := ⟨b1.os, b1.tape, b1.output, b1.size, b1.block⟩)
        | fail)
      all_goals (
        have HB := Lib.hid (below_step hbel B1')
        clear b1 B1' hbel C c0 c1 c2 c0' c1' c2' i1 i2
        go_wp2
        go_roundw
        case rel => exact ⟨k + 1, by omega, by go_num, HB.out⟩
        case measure => simp [intOf]; omega)
    · have hkl : k = l.length := by omega
      subst hkl
      go_wp2
      go_ret
      exact ⟨rfl, hbel⟩

theorem pr_info : (Try.prog.info? 49).map (fun i => (i.zero, i.size, i.bytes)) = some (some (.agg #[.int .i64 0, .int .i64 0, .slice none 0 0]), 3, 40) := by kernel_rfl
theorem res_toP {W : World} {b : Nat} {x y : Int} {v : Value} (tmps : Array Value) (h2 : tmps.getD 2 undef = .pointer (some ⟨b, 0, none⟩)) (h : PB W b x y v) :
    (results Try.f133 tmps).run Try.prog W = .ok (.agg #[.int .i64 x, .int .i64 y, v]) W := by
  have q0 := h.c0
  have q1 := h.c1
  have q2 := h.c2
  rw [results_one rfl, h2]
  go_simp

theorem own_lt {w : World} {base n c g : Nat} {e : TypeId} {size : Nat} {xs : List Value} (h : w.ownsRow base e size (.slice (some ⟨g, 0, none⟩) n c) n xs) : base ≤ g ∧ g < w.heap.size := h.lt g rfl
/-- Behind the last stores of a copy. -/
theorem toP_end {w : World} {a b : Nat} {x y x' y' : Int} {u' v : Value} (k : PB w b x' y' u') (hba : b ≠ a) :
    PB ((((w.setCell ⟨a, 2, none⟩ v).setCell ⟨b, 0, none⟩ (.int .i64 x)).setCell ⟨b, 1, none⟩ (.int .i64 y)).setCell ⟨b, 2, none⟩ v) b x y v ∧
    (∀ g, g ≠ a → g ≠ b → ((((w.setCell ⟨a, 2, none⟩ v).setCell ⟨b, 0, none⟩ (.int .i64 x)).setCell ⟨b, 1, none⟩ (.int .i64 y)).setCell ⟨b, 2, none⟩ v).heap[g]? = w.heap[g]?) ∧
    ∀ (B : Nat) (w0 : World), Below B w0 w → B ≤ a → B ≤ b → Below B w0 ((((w.setCell ⟨a, 2, none⟩ v).setCell ⟨b, 0, none⟩ (.int .i64 x)).setCell ⟨b, 1, none⟩ (.int .i64 y)).setCell ⟨b, 2, none⟩ v) :=
  ⟨(((k.kept (Below.heap_setCell _ _ _ _ hba)).set0 x).set1 y).set2 v, fun _ h1 h2 => (Below.heap_setCell _ _ _ _ h2).trans ((Below.heap_setCell _ _ _ _ h2).trans ((Below.heap_setCell _ _ _ _ h2).trans (Below.heap_setCell _ _ _ _ h1))),
    fun _ _ h h1 h2 => (((h.setCell h1 _).setCell h2 _).setCell h2 _).setCell h2 _⟩
set_option maxRecDepth 100000 in
set_option maxHeartbeats 1600000 in
/-- A proposal copied: its votes in new memory. -/
theorem toPr_any (x y : Int) (B : Option Addr) (d : Nat) (s : List Int) (w : World) (hb : IL w B s) (hl : s.length ≤ 1048576) :
    Calls Try.prog 133 #[.agg #[.int .i64 x, .int .i64 y, .slice B s.length d]] w fun e w' => ∃ g, e = .returned (.agg #[.int .i64 x, .int .i64 y, .slice (some ⟨g, 0, none⟩) s.length s.length]) ∧
      w'.ownsRow w.heap.size 3 1 (.slice (some ⟨g, 0, none⟩) s.length s.length) s.length (s.map (Value.int .i64)) ∧ Below w.heap.size w w' := by
  have b1 : Below w.heap.size w (w.alloc (.cells #[.int .i64 x, .int .i64 y, .slice B s.length d] 164)) := (Below.refl _ w).alloc (Nat.le_refl _) _
  have P1 := PB.new w x y (.slice B s.length d) 164
  have b2 := b1.alloc (o := .cells #[.int .i64 0, .int .i64 0, .slice none 0 0] 49) (by simp)
  have b3 := b2.alloc (o := .cells #[.int .i64 x, .int .i64 y, .slice none 0 0] 49) (by simp; omega)
  have Q2 := (PB.new (w.alloc (.cells #[.int .i64 x, .int .i64 y, .slice B s.length d] 164)) 0 0 (.slice none 0 0) 49).alloc (.cells #[.int .i64 x, .int .i64 y, .slice none 0 0] 49)
  have R2 := PB.new ((w.alloc (.cells #[.int .i64 x, .int .i64 y, .slice B s.length d] 164)).alloc (.cells #[.int .i64 0, .int .i64 0, .slice none 0 0] 49)) x y (.slice none 0 0) 49
  rw [World.size_alloc] at Q2 R2
  rw [World.size_alloc] at R2
  have H := Lib.hid (And.intro R2 (And.intro Q2 b3))
  clear b1 b2 b3 P1 Q2 R2
  go_enter Try.func133, Try.ntmps133
  go_wp2_with fail
  refine (toIntS_any _ _ _ _ (hb.below H.out.2.2) hl).mono ?_
  rintro e w1 ⟨g, rfl, ho, b1⟩
  have hz := H.out.2.2.size
  have R1 := H.out.1.below b1
  have Q1 := H.out.2.1.below b1
  have hz1 := b1.size
  have q0 := R1.c0
  have q1 := R1.c1
  have q2 := R1.c2
  have p0 := Q1.c0
  have p1 := Q1.c1
  have p2 := Q1.c2
  have z2 := R1.fz 2
  have z3 := Q1.fz 0
  have z4 := Q1.fz 1
  have z5 := Q1.fz 2
  have W := Lib.hid (toP_end (v := .slice (some ⟨g, 0, none⟩) s.length s.length) Q1 (x := x) (y := y) (a := w.heap.size + 1 + 1) (by omega))
  have HO := Lib.hid (And.intro ho (And.intro (below_step H.out.2.2 b1) hz1))
  clear ho b1 H
  go_wp2
  refine bodyPost_ret (res_toP (x := x) (y := y) (v := .slice (some ⟨g, 0, none⟩) s.length s.length) _ rfl W.out.1) rfl ⟨g, rfl, ?_, ?_⟩
  · have h := own_base HO.out.1 hz
    refine own_at h fun g' hg' => ?_
    have hg2 := (HO.out.1.lt g' hg').1
    simp at hg2
    exact W.out.2.1 g' (by omega) (by omega)
  · exact W.out.2.2 _ _ HO.out.2.1 (by omega) (by omega)
end Go.Proofs.Ytbkdhjmfphhhoaa

/- The exact laws' helpers on proposals and configurations: counted, copied, by their contracts. -/
namespace Go.Proofs.Ytbkdhjmfphhhoaa
open Go.RowKit

/-- What is left of q behind n, or the sign that it does not suffice. -/
def SZ (q n : Nat) (r : Int) : Prop := r = -1 ∨ ∃ p : Nat, r = (p : Int) ∧ p + n = q
theorem szOf_SZ (F : List (List Int)) (q : Nat) : SZ q (F.length + wt F) (szOf F q) := by
  unfold szOf
  split
  · exact .inr ⟨_, rfl, by omega⟩
  · exact .inl rfl
theorem SZ.add {q n m p : Nat} {r : Int} (h : SZ p m r) (h1 : p + n = q) : SZ q (n + m) r := by
  rcases h with h | ⟨k, h, h2⟩
  · exact .inl h
  · exact .inr ⟨k, h, by omega⟩

set_option maxRecDepth 100000 in
set_option maxHeartbeats 1600000 in
theorem szConfig_any (A B : Option Addr) (c d q : Nat) (F G : List (List Int)) (w : World) (ha : ISS w A F) (hb : ISS w B G) (hF : F.length ≤ maxLen) (sF : Short F maxLen) (hG : G.length ≤ maxLen) (sG : Short G maxLen) (hq : q ≤ 1048576) :
    Calls Try.prog 35 #[.agg #[.slice A F.length c, .slice B G.length d], .int .i64 q] w fun e w' => ∃ r : Int, e = .returned (.int .i64 r) ∧ SZ q (F.length + wt F + (G.length + wt G)) r ∧ Below w.heap.size w w' := by
  have ba : Below w.heap.size w (w.alloc (.cells #[.slice A F.length c, .slice B G.length d] 61)) := (Below.refl _ w).alloc (Nat.le_refl _) _
  have z1 := szOf_SZ F q
  obtain ⟨r, hr⟩ : ∃ r, r = szOf F q := ⟨_, rfl⟩
  rw [← hr] at z1
  have HR := Lib.hid hr
  clear hr
  go_enter Try.func35, Try.ntmps35
  go_wp2_with fail
  refine (szIntSS_any _ _ _ _ _ (ha.below ba) hF sF hq).mono ?_
  rintro e w' ⟨rfl, rfl⟩
  rw [← HR.out]
  rcases z1 with rfl | ⟨p, rfl, hp⟩
  · go_wp2
    go_ret
    exact ⟨_, rfl, .inl rfl, ba⟩
  · have z2 := szOf_SZ G p
    have hp' : p ≤ 1048576 := by omega
    obtain ⟨r2, hr2⟩ : ∃ r, r = szOf G p := ⟨_, rfl⟩
    rw [← hr2] at z2
    have HR2 := Lib.hid (And.intro hr2 hp)
    clear hr2 hp HR
    have hneg : decide (((p : Nat) : Int) < 0) = false := by simp
    go_wp2_with fail
    refine (szIntSS_any _ _ _ _ _ (hb.below ba) hG sG hp').mono ?_
    rintro e w' ⟨rfl, rfl⟩
    rw [← HR2.out.1]
    rcases z2 with rfl | ⟨p2, rfl, hp2⟩
    · go_wp2
      go_ret
      exact ⟨_, rfl, .inl rfl, ba⟩
    · have H2 := Lib.hid (show SZ q (F.length + wt F + (G.length + wt G)) (p2 : Int) from .inr ⟨p2, rfl, by have := HR2.out.2; omega⟩)
      have hneg2 : decide (((p2 : Nat) : Int) < 0) = false := by simp
      clear hp2 HR2
      go_wp2
      go_ret
      exact ⟨_, rfl, H2.out, ba⟩

set_option maxRecDepth 100000 in
set_option maxHeartbeats 800000 in
theorem szAccS_any (A : Option Addr) (c q : Nat) (l : List Ac) (w : World) (hm : l.length ≤ maxLen) (hq : q ≤ 1048576) :
    Calls Try.prog 95 #[.slice A l.length c, .int .i64 q] w fun e w' => ∃ r : Int, e = .returned (.int .i64 r) ∧ SZ q l.length r ∧ w = w' := by
  unfold maxLen at hm
  by_cases h : l.length ≤ q
  · have hd : (q : Int) - (l.length : Int) = ((q - l.length : Nat) : Int) := by omega
    have e1 : decide (((q - l.length : Nat) : Int) < 0) = false := by simp
    go_enter Try.func95, Try.ntmps95
    go_wp2
    go_ret
    exact ⟨_, rfl, .inr ⟨q - l.length, by omega, by omega⟩, rfl⟩
  · go_enter Try.func95, Try.ntmps95
    go_wp2
    go_ret
    exact ⟨_, rfl, .inl rfl, rfl⟩

set_option maxRecDepth 100000 in
set_option maxHeartbeats 800000 in
theorem szPr_yes (x y : Int) (B : Option Addr) (d n q : Nat) (w : World) (h : n ≤ q) (hq : q ≤ 1048576) :
    Calls Try.prog 131 #[.agg #[.int .i64 x, .int .i64 y, .slice B n d], .int .i64 q] w fun e w' => e = .returned (.int .i64 (q - n : Nat)) ∧ Below w.heap.size w w' := by
  have ba : Below w.heap.size w (w.alloc (.cells #[.int .i64 x, .int .i64 y, .slice B n d] 164)) := (Below.refl _ w).alloc (Nat.le_refl _) _
  have e1 : decide (((q - n : Nat) : Int) < 0) = false := by simp
  go_enter Try.func131, Try.ntmps131
  go_wp2_with fail
  refine (szIntS_yes _ _ _ _ _ h hq).mono ?_
  rintro e w' ⟨rfl, rfl⟩
  go_wp2
  go_ret
  exact ⟨rfl, ba⟩
set_option maxRecDepth 100000 in
set_option maxHeartbeats 800000 in
theorem szPr_no (x y : Int) (B : Option Addr) (d n q : Nat) (w : World) (h : q < n) (hn : n ≤ maxLen) :
    Calls Try.prog 131 #[.agg #[.int .i64 x, .int .i64 y, .slice B n d], .int .i64 q] w fun e w' => e = .returned (.int .i64 (-1)) ∧ Below w.heap.size w w' := by
  have ba : Below w.heap.size w (w.alloc (.cells #[.int .i64 x, .int .i64 y, .slice B n d] 164)) := (Below.refl _ w).alloc (Nat.le_refl _) _
  go_enter Try.func131, Try.ntmps131
  go_wp2_with fail
  refine (szIntS_no _ _ _ _ _ h hn).mono ?_
  rintro e w' ⟨rfl, rfl⟩
  go_wp2
  go_ret
  exact ⟨rfl, ba⟩

set_option maxRecDepth 100000 in
set_option maxHeartbeats 1600000 in
theorem szPrS_any (A : Option Addr) (c q : Nat) (l : List Pr) (w : World) (ha : PL w A l) (hl : l.length ≤ maxLen) (hs : Short (pvs l) maxLen) (hq : q ≤ 1048576) :
    Calls Try.prog 96 #[.slice A l.length c, .int .i64 q] w fun e w' => ∃ r : Int, e = .returned (.int .i64 r) ∧ SZ q (l.length + wt (pvs l)) r ∧ Below w.heap.size w w' := by
  have HL := Lib.hid hl
  unfold maxLen at hl
  by_cases h0 : l.length ≤ q
  · clear hl
    have hd : (q : Int) - (l.length : Int) = ((q - l.length : Nat) : Int) := by omega
    go_enter Try.func96, Try.ntmps96
    go_wp2
    go_loopw [1, 5] (fun r i wr => ∃ (k t : Nat), k ≤ l.length ∧ i = .int .i64 k ∧ r = .int .i64 t ∧ t ≤ 1048576 ∧ Hid (t + (l.length + wt ((pvs l).take k)) = q) ∧ Below w.heap.size w wr) (fun _ i _ => l.length - (intOf i).toNat)
    case atStart => exact ⟨0, q - l.length, Nat.zero_le _, rfl, by rw [← hd], by omega, by show _ = _; simp [wt]; omega, Below.refl _ w⟩
    case round =>
      obtain ⟨k, t, hk, rfl, rfl, ht, hsum, hbel⟩ := hrel
      by_cases hlt : k < l.length
      · obtain ⟨b, off, x, B, d, rfl, hx, c0, c1, c2, hil⟩ := (ha.below hbel).at_ hlt
        have hll := PL.short hs hx
        by_cases hle : x.2.2.length ≤ t
        · have H := Lib.hid (show (t - x.2.2.length) + (l.length + wt ((pvs l).take (k + 1))) = q by have := hsum.out; rw [wt_take (pvs_at hx)]; omega)
          clear hx hsum
          go_wp2_with fail
          refine (szPr_yes _ _ _ _ _ _ _ hle ht).mono ?_
          rintro e w2 ⟨rfl, b2⟩
          have HB := Lib.hid (below_step hbel b2)
          have hneg : decide (((t - x.2.2.length : Nat) : Int) < 0) = false := by simp
          clear hbel b2 c0 c1 c2 hil
          go_wp2
          go_roundw
          case rel => exact ⟨k + 1, t - x.2.2.length, by omega, by go_num, rfl, by omega, H.out, HB.out⟩
          case measure => simp [intOf]; omega
        · clear hx hsum
          go_wp2_with fail
          refine (szPr_no _ _ _ _ _ _ _ (by omega) hll).mono ?_
          rintro e w2 ⟨rfl, b2⟩
          have HB := Lib.hid (below_step hbel b2)
          clear hbel b2 c0 c1 c2 hil
          go_wp2
          go_ret
          exact ⟨_, rfl, .inl rfl, HB.out⟩
      · have hkl : k = l.length := by omega
        subst hkl
        have H := Lib.hid (show SZ q (l.length + wt (pvs l)) (t : Int) by
          have := hsum.out; rw [List.take_of_length_le (by rw [pvs_len]; exact Nat.le_refl _)] at this
          exact .inr ⟨t, rfl, this⟩)
        clear hsum
        go_wp2
        go_ret
        exact ⟨_, rfl, H.out, hbel⟩
  · clear hs ha
    go_enter Try.func96, Try.ntmps96
    go_wp2
    go_ret
    exact ⟨_, rfl, .inl rfl, Below.refl _ w⟩

/-- A row of n proposals of which the first k read as the list, their votes at vs. -/
def RWP (w : World) (g n : Nat) (l : List Pr) (vs : List Value) (k : Nat) : Prop :=
  ∃ cur, w.heap[g]? = some (.cells cur 49 (0, 0)) ∧ cur.size = n * 3 ∧ vs.length = k ∧ ∀ j, j < k * 3 → cur[j]? = (pcs (l.take k) vs)[j]?
section
variable {w w' : World} {g n k : Nat} {l : List Pr} {vs : List Value}
theorem RWP.lt (h : RWP w g n l vs k) : g < w.heap.size := by obtain ⟨cur, h, _⟩ := h; exact (Array.getElem?_eq_some_iff.1 h).1
theorem RWP.kept (h : RWP w g n l vs k) (hb : w'.heap[g]? = w.heap[g]?) : RWP w' g n l vs k := by obtain ⟨cur, h1, h2⟩ := h; exact ⟨cur, hb.trans h1, h2⟩
theorem RWP.below (h : RWP w g n l vs k) (hb : Below w.heap.size w w') : RWP w' g n l vs k := h.kept (hb.block g h.lt)
theorem RWP.fz (h : RWP w g n l vs k) (j : Nat) : w.frozen? ⟨g, j, none⟩ = false := by obtain ⟨cur, h, _⟩ := h; exact frozen_of_row w g j _ _ h
theorem RWP.cellAt (h : RWP w g n l vs k) {j : Nat} (hj : j < n * 3) : ∃ u, w.cell? ⟨g, j, none⟩ = some u := by
  obtain ⟨cur, h, hs, _⟩ := h
  exact ⟨cur[j]'(by omega), by rw [cell_of_row w g j _ _ (0, 0) h]; exact Array.getElem?_eq_getElem (by omega)⟩
theorem RWP.next (h : RWP w g n l vs k) {x : Pr} (v : Value) (hx : l[k]? = some x) (hk : k < n) :
    RWP (((w.setCell ⟨g, k * 3, none⟩ (.int .i64 x.1)).setCell ⟨g, k * 3 + 1, none⟩ (.int .i64 x.2.1)).setCell ⟨g, k * 3 + 2, none⟩ v) g n l (vs ++ [v]) (k + 1) := by
  obtain ⟨cur, h1, h2, h3, h4⟩ := h
  have hkl : k < l.length := (List.getElem?_eq_some_iff.1 hx).1
  have htl : vs.length = (l.take k).length := by rw [h3, List.length_take]; omega
  have hpl : (pcs (l.take k) vs).length = k * 3 := by rw [pcs_len htl, List.length_take]; congr 1; omega
  refine ⟨_, heap_setCell_same _ _ _ _ _ _ (heap_setCell_same _ _ _ _ _ _ (heap_setCell_same _ _ _ _ _ _ h1)), by simpa using h2, by simp [h3], fun j hj => ?_⟩
  rw [take_p hx, pcs_snoc x v htl]
  rw [set_at (by simp; omega), set_at (by simp; omega), set_at (by omega)]
  by_cases q2 : k * 3 + 2 = j
  · rw [if_pos q2, ← q2, List.getElem?_append_right (by omega), hpl]
    simp
  · rw [if_neg q2]
    by_cases q1 : k * 3 + 1 = j
    · rw [if_pos q1, ← q1, List.getElem?_append_right (by omega), hpl]
      simp
    · rw [if_neg q1]
      by_cases q0 : k * 3 = j
      · rw [if_pos q0, ← q0, List.getElem?_append_right (by omega), hpl]
        simp
      · rw [if_neg q0, List.getElem?_append_left (by omega)]
        exact h4 j (by omega)
theorem RWP.made {xs : List Value} (h : w.ownsRow g 49 3 (.slice (some ⟨g, 0, none⟩) n n) n xs) : RWP w g n l [] 0 := by
  rcases h.2 with ⟨h0, _⟩ | ⟨g', cap, cur, hv, _, hg, _, _, hs, _⟩
  · cases h0
  · injection hv with hA hn hc
    injection hA with hA
    injection hA with hA
    subst hA; subst hc
    exact ⟨cur, hg, hs, rfl, fun j hj => by omega⟩
theorem RWP.own {base : Nat} (h : RWP w g l.length l vs l.length) (hb : base ≤ g) (hm : l.length ≤ maxLen) : w.ownsRow base 49 3 (.slice (some ⟨g, 0, none⟩) l.length l.length) l.length (pcs l vs) := by
  obtain ⟨cur, h1, h2, h3, h4⟩ := h
  rw [List.take_length] at h4
  have hpl := pcs_len h3
  refine ⟨hpl, .inr ⟨g, l.length, cur, rfl, hb, h1, Nat.le_refl _, hm, h2, ?_⟩⟩
  rw [List.take_of_length_le (by simp [h2])]
  apply List.ext_getElem?
  intro j
  rcases Nat.lt_or_ge j (l.length * 3) with hj | hj
  · rw [← h4 j hj]; simp
  · rw [List.getElem?_eq_none (by simp [h2]; exact hj), List.getElem?_eq_none (by rw [hpl]; exact hj)]
end
theorem ne_typesP : (49 : TypeId) ≠ 3 := by decide
/-- A round of the copy, as facts on memory. -/
theorem copyP_step {w wr w2 : World} {g' : Nat} {l : List Pr} {vs : List Value} {k : Nat} {x : Pr} (hx : l[k]? = some x)
    (hown : RWP wr w.heap.size l.length l vs k) (hrows : Rws wr w.heap.size wr.heap.size (pvs (l.take k)) vs) (hbel : Below w.heap.size w wr)
    (ho : w2.ownsRow wr.heap.size 3 1 (.slice (some ⟨g', 0, none⟩) x.2.2.length x.2.2.length) x.2.2.length (x.2.2.map (Value.int .i64))) (hb2 : Below wr.heap.size wr w2) :
    let W := ((w2.setCell ⟨w.heap.size, k * 3, none⟩ (.int .i64 x.1)).setCell ⟨w.heap.size, k * 3 + 1, none⟩ (.int .i64 x.2.1)).setCell ⟨w.heap.size, k * 3 + 2, none⟩ (.slice (some ⟨g', 0, none⟩) x.2.2.length x.2.2.length)
    RWP W w.heap.size l.length l (vs ++ [.slice (some ⟨g', 0, none⟩) x.2.2.length x.2.2.length]) (k + 1) ∧ Rws W w.heap.size W.heap.size (pvs (l.take (k + 1))) (vs ++ [.slice (some ⟨g', 0, none⟩) x.2.2.length x.2.2.length]) ∧ Below w.heap.size w W := by
  have hk : k < l.length := (List.getElem?_eq_some_iff.1 hx).1
  have h2 := hown.below hb2
  obtain ⟨cur, hcur, _⟩ := id h2
  have hq := heap_setCell_same w2 w.heap.size (k * 3) cur 49 (.int .i64 x.1) hcur
  have hq2 := heap_setCell_same _ w.heap.size (k * 3 + 1) _ 49 (.int .i64 x.2.1) hq
  have hr0 := hrows.below (Nat.le_refl _) hb2
  have hro : RowAt w2 wr.heap.size w2.heap.size x.2.2 (.slice (some ⟨g', 0, none⟩) x.2.2.length x.2.2.length) := ⟨_, _, rfl, Own.of_new ho⟩
  have hr1 := ((hr0.store hcur ne_typesP hb2.size (k * 3) (.int .i64 x.1)).store hq ne_typesP (by simpa [World.setCell] using hb2.size) (k * 3 + 1) (.int .i64 x.2.1)).store hq2 ne_typesP (by simpa [World.setCell] using hb2.size) (k * 3 + 2) (.slice (some ⟨g', 0, none⟩) x.2.2.length x.2.2.length)
  have hro1 := ((hro.store hcur ne_typesP (k * 3) (.int .i64 x.1)).store hq ne_typesP (k * 3 + 1) (.int .i64 x.2.1)).store hq2 ne_typesP (k * 3 + 2) (.slice (some ⟨g', 0, none⟩) x.2.2.length x.2.2.length)
  refine ⟨h2.next _ hx hk, ?_, (((below_step hbel hb2).setCell (Nat.le_refl _) _).setCell (Nat.le_refl _) _).setCell (Nat.le_refl _) _⟩
  have hsz : ((((w2.setCell ⟨w.heap.size, k * 3, none⟩ (.int .i64 x.1)).setCell ⟨w.heap.size, k * 3 + 1, none⟩ (.int .i64 x.2.1)).setCell ⟨w.heap.size, k * 3 + 2, none⟩ (.slice (some ⟨g', 0, none⟩) x.2.2.length x.2.2.length))).heap.size = w2.heap.size := by simp [World.setCell]
  rw [hsz, take_p hx, pvs_app]
  exact hr1.snoc hro1 (Nat.le_refl _) hbel.size hb2.size

set_option maxRecDepth 100000 in
set_option maxHeartbeats 1600000 in
/-- A copy: the same proposals in new memory. -/
theorem toPrS_any (A : Option Addr) (c : Nat) (l : List Pr) (w : World) (ha : PL w A l) (hl : l.length ≤ 1048576) (hs : Short (pvs l) 1048576) :
    Calls Try.prog 98 #[.slice A l.length c] w fun e w' =>
      ∃ g, e = .returned (.slice (some ⟨g, 0, none⟩) l.length l.length) ∧ OPS w' w.heap.size w'.heap.size (some ⟨g, 0, none⟩) l.length l ∧ Below w.heap.size w w' := by
  obtain ⟨i0, hi0, hz0, hz1, hz2⟩ := info_parts pr_info
  go_enter Try.func98, Try.ntmps98
  go_wp2_with (at_make; refine wpList_make_full _ rfl (.tmp 6) (.tmp 6) 28 rfl w.heap.size 49 i0 (.agg #[.int .i64 0, .int .i64 0, .slice none 0 0]) 3 Try.underlying28 hi0 hz0 hz1 .i64 .i64 _ _ l.length rfl rfl rfl rfl (by rw [hz2]; omega) (by unfold maxLen; omega) (Nat.le_refl _) ?_)
  intro w1 hown hgrow
  have hb1 : Below w.heap.size w w1 := (Below.refl _ _).grown hgrow (Nat.le_refl _) (by simp)
  have H0 := Lib.hid (And.intro (RWP.made (l := l) hown) hb1)
  clear hgrow hown hb1
  go_wp2
  go_loopw [4] (fun i wr => ∃ (k : Nat) (vs : List Value), k ≤ l.length ∧ i = .int .i64 k ∧ RWP wr w.heap.size l.length l vs k ∧ Rws wr w.heap.size wr.heap.size (pvs (l.take k)) vs ∧ Below w.heap.size w wr) (fun i _ => l.length - (intOf i).toNat)
  case atStart => exact ⟨0, [], Nat.zero_le _, rfl, H0.out.1, Rws.nil _ _ _, H0.out.2⟩
  case round =>
    clear H0
    obtain ⟨k, vs, hk, rfl, hown, hrows, hbel⟩ := hrel
    by_cases hlt : k < l.length
    · obtain ⟨b, off, x, B, d, rfl, hx, c0, c1, c2, hil⟩ := (ha.below hbel).at_ hlt
      have hll := PL.short hs hx
      have HX := Lib.hid hx
      clear hx
      have HR := Lib.hid (And.intro hown (And.intro hrows hbel))
      clear hown hrows hbel
      go_wp2_with fail
      refine (toPr_any _ _ _ _ _ _ hil hll).mono ?_
      rintro e w2 ⟨g', rfl, ho, hb2⟩
      have R := HR.out.1.below hb2
      obtain ⟨u0, d0⟩ := R.cellAt (j := k * 3) (by omega)
      obtain ⟨u1, d1⟩ := R.cellAt (j := k * 3 + 1) (by omega)
      obtain ⟨u2, d2⟩ := R.cellAt (j := k * 3 + 2) (by omega)
      have z0 := R.fz (k * 3)
      have z1 := R.fz (k * 3 + 1)
      have z2 := R.fz (k * 3 + 2)
      have HS := Lib.hid (copyP_step HX.out HR.out.1 HR.out.2.1 HR.out.2.2 ho hb2)
      clear ho hb2 HR R c0 c1 c2 HX
      go_wp2
      go_roundw
      case rel => exact ⟨k + 1, _, by omega, by go_num, HS.out.1, HS.out.2.1, HS.out.2.2⟩
      case measure => simp [intOf]; omega
    · have hkl : k = l.length := by omega
      subst hkl
      rw [List.take_length] at hrows
      have HR := Lib.hid (And.intro (hown.own (Nat.le_refl _) (by unfold maxLen; omega)) (And.intro hrows hbel))
      clear hown hrows hbel
      go_wp2
      go_ret
      exact ⟨_, rfl, OPS.of_rows HR.out.1 HR.out.2.1, HR.out.2.2⟩
end Go.Proofs.Ytbkdhjmfphhhoaa

/- Runs in memory and as values: counted, copied, compared, by their contracts. -/
namespace Go.Proofs.Ytbkdhjmfphhhoaa
open Go.RowKit

/-- A run in a block of its own. -/
def RB (w : World) (b : Nat) (p q c d : Value) : Prop := ∃ T, w.heap[b]? = some (.cells #[p, q, c, d] T (0, 0))
section
variable {w w' : World} {b : Nat} {p q c d : Value}
theorem RB.lt (h : RB w b p q c d) : b < w.heap.size := by obtain ⟨T, h⟩ := h; exact (Array.getElem?_eq_some_iff.1 h).1
theorem RB.fz (h : RB w b p q c d) (j : Nat) : w.frozen? ⟨b, j, none⟩ = false := by obtain ⟨T, h⟩ := h; exact frozen_of_row w b j _ _ h
theorem RB.c0 (h : RB w b p q c d) : w.cell? ⟨b, 0, none⟩ = some p := by obtain ⟨T, h⟩ := h; rw [cell_of_row w b 0 _ _ (0, 0) h]; rfl
theorem RB.c1 (h : RB w b p q c d) : w.cell? ⟨b, 1, none⟩ = some q := by obtain ⟨T, h⟩ := h; rw [cell_of_row w b 1 _ _ (0, 0) h]; rfl
theorem RB.c2 (h : RB w b p q c d) : w.cell? ⟨b, 2, none⟩ = some c := by obtain ⟨T, h⟩ := h; rw [cell_of_row w b 2 _ _ (0, 0) h]; rfl
theorem RB.c3 (h : RB w b p q c d) : w.cell? ⟨b, 3, none⟩ = some d := by obtain ⟨T, h⟩ := h; rw [cell_of_row w b 3 _ _ (0, 0) h]; rfl
theorem RB.kept (h : RB w b p q c d) (hb : w'.heap[b]? = w.heap[b]?) : RB w' b p q c d := by obtain ⟨T, h⟩ := h; exact ⟨T, hb.trans h⟩
theorem RB.below (h : RB w b p q c d) (hb : Below w.heap.size w w') : RB w' b p q c d := h.kept (hb.block b h.lt)
theorem RB.new (w : World) (p q c d : Value) (T : Nat) : RB (w.alloc (.cells #[p, q, c, d] T)) w.heap.size p q c d := ⟨T, heap_alloc_new w _⟩
theorem RB.alloc (h : RB w b p q c d) (o : Obj) : RB (w.alloc o) b p q c d := h.kept (Below.heap_alloc w o b h.lt)
theorem RB.set (h : RB w b p q c d) (j : Nat) (v : Value) : ∃ T, (w.setCell ⟨b, j, none⟩ v).heap[b]? = some (.cells (#[p, q, c, d].setIfInBounds j v) T (0, 0)) := by
  obtain ⟨T, h⟩ := h
  exact ⟨T, heap_setCell_same w b j _ _ _ h⟩
theorem RB.set0 (h : RB w b p q c d) (v : Value) : RB (w.setCell ⟨b, 0, none⟩ v) b v q c d := by obtain ⟨T, h⟩ := h.set 0 v; exact ⟨T, h⟩
theorem RB.set1 (h : RB w b p q c d) (v : Value) : RB (w.setCell ⟨b, 1, none⟩ v) b p v c d := by obtain ⟨T, h⟩ := h.set 1 v; exact ⟨T, h⟩
theorem RB.set2 (h : RB w b p q c d) (v : Value) : RB (w.setCell ⟨b, 2, none⟩ v) b p q v d := by obtain ⟨T, h⟩ := h.set 2 v; exact ⟨T, h⟩
theorem RB.set3 (h : RB w b p q c d) (v : Value) : RB (w.setCell ⟨b, 3, none⟩ v) b p q c v := by obtain ⟨T, h⟩ := h.set 3 v; exact ⟨T, h⟩
end
def setR (w : World) (b : Nat) (p q c d : Value) : World := (((w.setCell ⟨b, 0, none⟩ p).setCell ⟨b, 1, none⟩ q).setCell ⟨b, 2, none⟩ c).setCell ⟨b, 3, none⟩ d
theorem RB.setR {w : World} {b : Nat} {p q c d : Value} (h : RB w b p q c d) (p' q' c' d' : Value) : RB (setR w b p' q' c' d') b p' q' c' d' := (((h.set0 p').set1 q').set2 c').set3 d'
theorem setR_keep (w : World) (b : Nat) (p q c d : Value) : Keep b (b + 1) w (setR w b p q c d) :=
  ⟨rfl, rfl, rfl, by simp [setR, World.setCell], fun i _ hi => (Below.heap_setCell _ _ _ _ (by show i ≠ b; omega)).trans ((Below.heap_setCell _ _ _ _ (by show i ≠ b; omega)).trans ((Below.heap_setCell _ _ _ _ (by show i ≠ b; omega)).trans (Below.heap_setCell _ _ _ _ (by show i ≠ b; omega))))⟩
theorem setR_size (w : World) (b : Nat) (p q c d : Value) : (setR w b p q c d).heap.size = w.heap.size := by simp [setR, World.setCell]

/-- The slices read as the run. -/
structure Reads (w : World) (A B C D : Option Addr) (r : Rn) : Prop where
  P : ISS w A r.P
  Q : ISS w B r.Q
  ac : AL w C r.ac
  pr : PL w D r.pr
theorem Reads.below {w w' : World} {A B C D : Option Addr} {r : Rn} (h : Reads w A B C D r) (hb : Below w.heap.size w w') : Reads w' A B C D r := ⟨h.P.below hb, h.Q.below hb, h.ac.below hb, h.pr.below hb⟩
/-- The value of a run at its slices. -/
abbrev RVal (A B C D : Option Addr) (c d e f : Nat) (r : Rn) : Value := .agg #[.slice A r.P.length c, .slice B r.Q.length d, .slice C r.ac.length e, .slice D r.pr.length f]
def rsz (r : Rn) : Nat := r.P.length + wt r.P + (r.Q.length + wt r.Q) + r.ac.length + (r.pr.length + wt (pvs r.pr))
/-- Bounds on a run's lists. -/
structure RLen (r : Rn) (n : Nat) : Prop where
  P : r.P.length ≤ n
  Q : r.Q.length ≤ n
  ac : r.ac.length ≤ n
  pr : r.pr.length ≤ n
  sP : Short r.P n
  sQ : Short r.Q n
  sv : Short (pvs r.pr) n
theorem rsz_len {r : Rn} {n : Nat} (h : rsz r ≤ n) : RLen r n := by
  unfold rsz at h
  refine ⟨by omega, by omega, by omega, by omega, wt_short (by omega), wt_short (by omega), wt_short ?_⟩
  rw [pvs_len]; omega

set_option maxRecDepth 100000 in
set_option maxHeartbeats 1600000 in
theorem szRun_any (A B C D : Option Addr) (c d e f : Nat) (r : Rn) (w : World) (h : Reads w A B C D r) (hl : RLen r maxLen) :
    Calls Try.prog 42 #[RVal A B C D c d e f r, .int .i64 1048576] w fun e w' => ∃ x : Int, e = .returned (.int .i64 x) ∧ (0 ≤ x → rsz r ≤ 1048576) ∧ Below w.heap.size w w' := by
  have ba : Below w.heap.size w (w.alloc (.cells #[.slice A r.P.length c, .slice B r.Q.length d, .slice C r.ac.length e, .slice D r.pr.length f] 71)) := (Below.refl _ w).alloc (Nat.le_refl _) _
  have rb := RB.new w (.slice A r.P.length c) (.slice B r.Q.length d) (.slice C r.ac.length e) (.slice D r.pr.length f) 71
  have H := Lib.hid (And.intro h hl)
  clear h hl
  go_enter Try.func42, Try.ntmps42
  go_wp2_with fail
  refine (szConfig_any _ _ _ _ 1048576 _ _ _ (H.out.1.P.below ba) (H.out.1.Q.below ba) H.out.2.P H.out.2.sP H.out.2.Q H.out.2.sQ (Nat.le_refl _)).mono ?_
  rintro e w1 ⟨x1, rfl, z1, b1⟩
  have B1 := below_step ba b1
  have rb1 := rb.below b1
  have c2 := rb1.c2
  clear b1 ba rb
  rcases z1 with rfl | ⟨p1, rfl, hp1⟩
  · go_wp2
    go_ret
    exact ⟨_, rfl, fun h => by omega, B1⟩
  · have n1 : decide (((p1 : Nat) : Int) < 0) = false := by simp
    have hb1 : p1 ≤ 1048576 := by omega
    have HP1 := Lib.hid hp1
    clear hp1
    go_wp2_with fail
    refine (szAccS_any _ _ _ _ _ H.out.2.ac hb1).mono ?_
    rintro e w2 ⟨x2, rfl, z2, rfl⟩
    rcases z2 with rfl | ⟨p2, rfl, hp2⟩
    · go_wp2
      go_ret
      exact ⟨_, rfl, fun h => by omega, B1⟩
    · have n2 : decide (((p2 : Nat) : Int) < 0) = false := by simp
      have hb2 : p2 ≤ 1048576 := by omega
      have HP2 := Lib.hid hp2
      have c3 := rb1.c3
      clear hp2 c2
      go_wp2_with fail
      refine (szPrS_any _ _ _ _ _ (H.out.1.pr.below B1) H.out.2.pr H.out.2.sv hb2).mono ?_
      rintro e w3 ⟨x3, rfl, z3, b3⟩
      have B3 := below_step B1 b3
      clear b3 B1 rb1 c3
      rcases z3 with rfl | ⟨p3, rfl, hp3⟩
      · go_wp2
        go_ret
        exact ⟨_, rfl, fun h => by omega, B3⟩
      · have n3 : decide (((p3 : Nat) : Int) < 0) = false := by simp
        have HR := Lib.hid (show rsz r ≤ 1048576 by have := HP1.out; have := HP2.out; unfold rsz; omega)
        clear hp3 HP1 HP2
        go_wp2
        go_ret
        exact ⟨_, rfl, fun _ => HR.out, B3⟩

set_option maxRecDepth 100000 in
set_option maxHeartbeats 1600000 in
theorem eqRun_yes (A B C D A' B' C' D' : Option Addr) (c d e f c' d' e' f' : Nat) (r : Rn) (w : World) (h : Reads w A B C D r) (k : Reads w A' B' C' D' r) (hl : RLen r 1048576) :
    Calls Try.prog 37 #[RVal A B C D c d e f r, RVal A' B' C' D' c' d' e' f' r] w fun e w' => e = .returned (.bool true) ∧ Below w.heap.size w w' := by
  have ba : Below w.heap.size w ((w.alloc (.cells #[.slice A r.P.length c, .slice B r.Q.length d, .slice C r.ac.length e, .slice D r.pr.length f] 30)).alloc (.cells #[.slice A' r.P.length c', .slice B' r.Q.length d', .slice C' r.ac.length e', .slice D' r.pr.length f'] 30)) := ((Below.refl _ w).alloc (Nat.le_refl _) _).alloc (by simp) _
  have rb := (RB.new w (.slice A r.P.length c) (.slice B r.Q.length d) (.slice C r.ac.length e) (.slice D r.pr.length f) 30).alloc (.cells #[.slice A' r.P.length c', .slice B' r.Q.length d', .slice C' r.ac.length e', .slice D' r.pr.length f'] 30)
  have rb' := RB.new (w.alloc (.cells #[.slice A r.P.length c, .slice B r.Q.length d, .slice C r.ac.length e, .slice D r.pr.length f] 30)) (.slice A' r.P.length c') (.slice B' r.Q.length d') (.slice C' r.ac.length e') (.slice D' r.pr.length f') 30
  rw [World.size_alloc] at rb'
  have H := Lib.hid (And.intro h (And.intro k hl))
  clear h k hl
  go_enter Try.func37, Try.ntmps37
  go_wp2_with fail
  refine (eqConfig_yes _ _ _ _ _ _ _ _ _ _ _ (H.out.1.P.below ba) (H.out.1.Q.below ba) (H.out.2.1.P.below ba) (H.out.2.1.Q.below ba) H.out.2.2.P H.out.2.2.sP H.out.2.2.Q H.out.2.2.sQ).mono ?_
  rintro e w1 ⟨rfl, b1⟩
  have B1 := below_step ba b1
  have r1 := rb.below b1
  have r1' := rb'.below b1
  have q0 := r1.c2
  have q1 := r1'.c2
  clear b1 ba rb rb'
  go_wp2_with fail
  refine (eqAccS_yes _ _ _ _ _ _ (H.out.1.ac.below B1) (H.out.2.1.ac.below B1) H.out.2.2.ac).mono ?_
  rintro e w2 ⟨rfl, b2⟩
  have B2 := below_step B1 b2
  have r2 := r1.below b2
  have r2' := r1'.below b2
  clear q0 q1
  have q0 := r2.c3
  have q1 := r2'.c3
  clear b2 B1 r1 r1'
  go_wp2_with fail
  refine (eqPrS_yes _ _ _ _ _ _ (H.out.1.pr.below B2) (H.out.2.1.pr.below B2) H.out.2.2.pr H.out.2.2.sv).mono ?_
  rintro e w3 ⟨rfl, b3⟩
  have B3 := below_step B2 b3
  clear b3 B2 r2 r2' q0 q1
  go_wp2
  go_ret
  exact ⟨rfl, B3⟩

theorem res_toC {W : World} {b : Nat} {p q : Value} (tmps : Array Value) (h2 : tmps.getD 2 undef = .pointer (some ⟨b, 0, none⟩)) (h : CB W b p q) :
    (results Try.f36 tmps).run Try.prog W = .ok (.agg #[p, q]) W := by
  have q0 := h.c0
  have q1 := h.c1
  rw [results_one rfl, h2]
  go_simp
/-- A copied configuration. -/
def CopyC (w : World) (F G : List (List Int)) (e : Ending) (w' : World) : Prop :=
  ∃ (g g' m : Nat), e = .returned (.agg #[.slice (some ⟨g, 0, none⟩) F.length F.length, .slice (some ⟨g', 0, none⟩) G.length G.length]) ∧ w.heap.size ≤ m ∧ m ≤ w'.heap.size ∧ OSS w' w.heap.size m (some ⟨g, 0, none⟩) F.length F ∧ OSS w' m w'.heap.size (some ⟨g', 0, none⟩) G.length G ∧ Below w.heap.size w w'
theorem CB.newT (w : World) (p q : Value) : CB (w.alloc (.cells #[p, q] 25)) w.heap.size p q := heap_alloc_new w _
theorem CB.alloc {w : World} {b : Nat} {p q : Value} (h : CB w b p q) (o : Obj) : CB (w.alloc o) b p q := h.kept (Below.heap_alloc w o b h.lt)

set_option maxRecDepth 100000 in
set_option maxHeartbeats 1600000 in
theorem toConfig_any (A B : Option Addr) (c d : Nat) (F G : List (List Int)) (w : World) (ha : ISS w A F) (hb : ISS w B G) (hF : F.length ≤ 1048576) (sF : Short F 1048576) (hG : G.length ≤ 1048576) (sG : Short G 1048576) :
    Calls Try.prog 36 #[.agg #[.slice A F.length c, .slice B G.length d]] w (CopyC w F G) := by
  have ba : Below w.heap.size w (((w.alloc (.cells #[.slice A F.length c, .slice B G.length d] 61)).alloc (.cells #[.slice none 0 0, .slice none 0 0] 25)).alloc (.cells #[.slice none 0 0, .slice none 0 0] 25)) := (((Below.refl _ w).alloc (Nat.le_refl _) _).alloc (by simp) _).alloc (by simp; omega) _
  have k2 := (CB.newT (w.alloc (.cells #[.slice A F.length c, .slice B G.length d] 61)) (.slice none 0 0) (.slice none 0 0)).alloc (.cells #[.slice none 0 0, .slice none 0 0] 25)
  have k3 := CB.newT ((w.alloc (.cells #[.slice A F.length c, .slice B G.length d] 61)).alloc (.cells #[.slice none 0 0, .slice none 0 0] 25)) (.slice none 0 0) (.slice none 0 0)
  have hx : (((w.alloc (.cells #[.slice A F.length c, .slice B G.length d] 61)).alloc (.cells #[.slice none 0 0, .slice none 0 0] 25)).alloc (.cells #[.slice none 0 0, .slice none 0 0] 25)).heap.size = w.heap.size + 1 + 1 + 1 := by simp
  rw [World.size_alloc] at k2 k3
  rw [World.size_alloc] at k3
  have c1 : (((w.alloc (.cells #[.slice A F.length c, .slice B G.length d] 61)).alloc (.cells #[.slice none 0 0, .slice none 0 0] 25)).alloc (.cells #[.slice none 0 0, .slice none 0 0] 25)).heap[w.heap.size]? = some (.cells #[.slice A F.length c, .slice B G.length d] 61 (0, 0)) :=
    (Below.heap_alloc _ _ _ (by simp; omega)).trans ((Below.heap_alloc _ _ _ (by simp)).trans (heap_alloc_new w _))
  have H := Lib.hid (And.intro hF (And.intro sF (And.intro hG sG)))
  have K := Lib.hid (And.intro k2 (And.intro k3 (And.intro c1 hx)))
  clear hF sF hG sG k2 k3 c1 hx
  go_enter Try.func36, Try.ntmps36
  go_wp2_with fail
  refine (toIntSS_any _ _ _ _ (ha.below ba) H.out.1 H.out.2.1).mono ?_
  rintro e w1 ⟨g, rfl, o1, b1⟩
  have k2 := K.out.1.below b1
  have k3 := K.out.2.1.below b1
  have S1 := b1.size
  rw [K.out.2.2.2] at S1
  have c1 := (b1.block _ (by rw [K.out.2.2.2]; omega)).trans K.out.2.2.1
  have q0 : w1.cell? ⟨w.heap.size, 1, none⟩ = some (.slice B G.length d) := by rw [cell_of_row _ _ 1 _ _ (0, 0) c1]; rfl
  have q1 := k3.c0
  have z1 := k3.fz 0
  have B1 := below_step ba b1
  have ks : Keep (w.heap.size + 1 + 1) (w.heap.size + 1 + 1 + 1) w1 (w1.setCell ⟨w.heap.size + 1 + 1, 0, none⟩ (.slice (some ⟨g, 0, none⟩) F.length F.length)) := ⟨rfl, rfl, rfl, by simp [World.setCell], fun i _ hi => Below.heap_setCell _ _ _ _ (by show i ≠ w.heap.size + 1 + 1; omega)⟩
  have k3' : CB (w1.setCell ⟨w.heap.size + 1 + 1, 0, none⟩ (.slice (some ⟨g, 0, none⟩) F.length F.length)) (w.heap.size + 1 + 1) (.slice (some ⟨g, 0, none⟩) F.length F.length) (.slice none 0 0) := by
    unfold CB
    rw [heap_setCell_same w1 _ 0 _ _ _ k3]
    rfl
  have M := Lib.hid (And.intro (k2.kept (ks.block _ k2.lt (by omega))) (And.intro k3' (And.intro (o1.keep ks (.inr (by rw [K.out.2.2.2]; omega))) (And.intro (below_keep B1 ks (by omega)) (show (w1.setCell ⟨w.heap.size + 1 + 1, 0, none⟩ (.slice (some ⟨g, 0, none⟩) F.length F.length)).heap.size = w1.heap.size by simp [World.setCell])))))
  clear k2 k3 c1 B1 ks k3' o1 b1 ba
  go_wp2_with fail
  refine (toIntSS_any _ _ _ _ (hb.below M.out.2.2.2.1) H.out.2.2.1 H.out.2.2.2).mono ?_
  rintro e w2 ⟨g', rfl, o2, b2⟩
  have k2 := M.out.1.below b2
  have k3 := M.out.2.1.below b2
  have B2 := below_step M.out.2.2.2.1 b2
  have S2 := b2.size
  have hs := M.out.2.2.2.2
  have hx := K.out.2.2.2
  have o1 := M.out.2.2.1.below b2
  rw [hx] at o1
  clear q0 q1 z1 M
  have q0 := k3.c0
  have q1 := k3.c1
  have z1 := k3.fz 1
  have p0 := k2.c0
  have p1 := k2.c1
  have y0 := k2.fz 0
  have y1 := k2.fz 1
  have ks : Keep (w.heap.size + 1 + 1) (w.heap.size + 1 + 1 + 1) w2 (w2.setCell ⟨w.heap.size + 1 + 1, 1, none⟩ (.slice (some ⟨g', 0, none⟩) G.length G.length)) := ⟨rfl, rfl, rfl, by simp [World.setCell], fun i _ hi => Below.heap_setCell _ _ _ _ (by show i ≠ w.heap.size + 1 + 1; omega)⟩
  have kt := set2_keep (w2.setCell ⟨w.heap.size + 1 + 1, 1, none⟩ (.slice (some ⟨g', 0, none⟩) G.length G.length)) (w.heap.size + 1) (.slice (some ⟨g, 0, none⟩) F.length F.length) (.slice (some ⟨g', 0, none⟩) G.length G.length)
  have kk := (ks.wide (lo2 := w.heap.size + 1) (by omega) (Nat.le_refl _)).trans (kt.wide (Nat.le_refl _) (by omega))
  have k4 := (k2.kept (ks.block _ k2.lt (by omega))).set2 (.slice (some ⟨g, 0, none⟩) F.length F.length) (.slice (some ⟨g', 0, none⟩) G.length G.length)
  have M := Lib.hid (And.intro k4 (And.intro (o1.keep kk (.inr (by omega))) (And.intro (o2.keep kk (.inr (by omega))) (below_keep B2 kk (by omega)))))
  clear k2 k3 B2 ks kt kk k4 o1 o2 b2 K
  go_wp2
  refine bodyPost_ret (res_toC _ rfl M.out.1) rfl ⟨g, g', w1.heap.size, rfl, by omega, by simp [World.setCell]; omega, M.out.2.1.base (by omega), ?_, M.out.2.2.2⟩
  have := M.out.2.2.1
  rw [hs] at this
  simpa [World.setCell] using this
end Go.Proofs.Ytbkdhjmfphhhoaa

/- Runs copied, marks written into them and found again, by their contracts. -/
namespace Go.Proofs.Ytbkdhjmfphhhoaa
open Go.RowKit

/-- A row of states of the call's own, made when the heap had between lo and hi blocks. -/
def OAS (w : World) (lo hi : Nat) (A : Option Addr) (c : Nat) (l : List Ac) : Prop :=
  ∃ T, w.ownsRow lo T 3 (.slice A l.length c) l.length (acs l) ∧ hi ≤ w.heap.size ∧ ∀ g, (Value.slice A l.length c).ownBlock = some g → lo ≤ g ∧ g < hi
section
variable {w w' : World} {lo hi c : Nat} {A : Option Addr} {l : List Ac}
theorem OAS.al (h : OAS w lo hi A c l) : AL w A l := by
  obtain ⟨T, h, _⟩ := h
  rcases h.2 with ⟨_, h0⟩ | ⟨g, cap, cur, hv, hb, hg, _, _, _, ht⟩
  · left; exact List.eq_nil_of_length_eq_zero (by omega)
  · right
    injection hv with hA
    subst hA
    refine ⟨g, 0, rfl, (Array.getElem?_eq_some_iff.1 hg).1, fun j x hx => ?_⟩
    have := World.ownsRow.cells h (g := g) rfl j x hx
    rw [Addr.add_lit] at this
    exact this
theorem OAS.hi_le (h : OAS w lo hi A c l) : hi ≤ w.heap.size := by obtain ⟨_, _, hh, _⟩ := h; exact hh
theorem OAS.keep {lo2 hi2 : Nat} (h : OAS w lo hi A c l) (k : Keep lo2 hi2 w w') (hd : hi ≤ lo2 ∨ hi2 ≤ lo) : OAS w' lo hi A c l := by
  obtain ⟨T, ho, hh, hb⟩ := h
  exact ⟨T, own_at ho fun g hg => k.block g (by have := hb g hg; omega) (by have := hb g hg; omega), Nat.le_trans hh k.size, hb⟩
theorem OAS.below (h : OAS w lo hi A c l) (hb : Below w.heap.size w w') : OAS w' lo hi A c l := h.keep (Keep.of_below w.heap.size w.heap.size hb) (.inl h.hi_le)
theorem OAS.of_new {T : Nat} (h : w.ownsRow lo T 3 (.slice A l.length c) l.length (acs l)) : OAS w lo w.heap.size A c l := ⟨T, h, Nat.le_refl _, fun g hg => h.lt g hg⟩
end
theorem RW3.own {w : World} {g base : Nat} {l : List Ac} (h : RW3 w g l.length l l.length) (hb : base ≤ g) (hm : l.length ≤ maxLen) : ∃ T, w.ownsRow base T 3 (.slice (some ⟨g, 0, none⟩) l.length l.length) l.length (acs l) := by
  obtain ⟨T, cur, h1, h2, h4⟩ := h
  refine ⟨T, acs_len l, .inr ⟨g, l.length, cur, rfl, hb, h1, Nat.le_refl _, hm, h2, ?_⟩⟩
  rw [List.take_of_length_le (by simp [h2])]
  apply List.ext_getElem?
  intro j
  rcases Nat.lt_or_ge j (l.length * 3) with hj | hj
  · rw [← h4 j hj]; simp
  · rw [List.getElem?_eq_none (by simp [h2]; exact hj), List.getElem?_eq_none (by rw [acs_len]; exact hj)]

set_option maxRecDepth 100000 in
set_option maxHeartbeats 1600000 in
theorem toAccS_own (A : Option Addr) (c : Nat) (l : List Ac) (w : World) (ha : AL w A l) (hl : l.length ≤ 1048576) :
    Calls Try.prog 97 #[.slice A l.length c] w fun e w' =>
      ∃ g, e = .returned (.slice (some ⟨g, 0, none⟩) l.length l.length) ∧ OAS w' w.heap.size w'.heap.size (some ⟨g, 0, none⟩) l.length l ∧ Below w.heap.size w w' := by
  obtain ⟨i0, hi0, hz0, hz1, hz2⟩ := info_parts acp_info
  go_enter Try.func97, Try.ntmps97
  go_wp2_with (at_make; refine wpList_make_full _ rfl (.tmp 6) (.tmp 6) 27 rfl w.heap.size 35 i0 (AVal 0 0 0) 3 Try.underlying27 hi0 hz0 hz1 .i64 .i64 _ _ l.length rfl rfl rfl rfl (by rw [hz2]; omega) (by unfold maxLen; omega) (Nat.le_refl _) ?_)
  intro w1 hown hgrow
  have hb1 : Below w.heap.size w w1 := (Below.refl _ _).grown hgrow (Nat.le_refl _) (by simp)
  have H0 := Lib.hid (And.intro (RW3.made (l := l) hown) hb1)
  clear hgrow hown hb1
  go_wp2
  go_loopw [4] (fun i wr => ∃ k : Nat, k ≤ l.length ∧ i = .int .i64 k ∧ RW3 wr w.heap.size l.length l k ∧ Below w.heap.size w wr) (fun i _ => l.length - (intOf i).toNat)
  case atStart => exact ⟨0, Nat.zero_le _, rfl, H0.out.1, H0.out.2⟩
  case round =>
    clear H0
    obtain ⟨k, hk, rfl, hown, hbel⟩ := hrel
    by_cases hlt : k < l.length
    · obtain ⟨b, off, x, rfl, hx, c0, c1, c2⟩ := (ha.below hbel).at_ hlt
      have HX := Lib.hid hx
      have hki : (0 : Int) ≤ (k : Int) := by omega
      have hki2 : (k : Int) < (l.length : Int) := by omega
      clear hx
      obtain ⟨x0, x1, x2⟩ := x
      go_wp2_with fail
      refine (toAcc_any x0 x1 x2 _).mono ?_
      rintro e w2 ⟨rfl, b2⟩
      have R := hown.below b2
      have HB := below_step hbel b2
      obtain ⟨u0, d0⟩ := R.cellAt (j := k * 3) (by omega)
      obtain ⟨u1, d1⟩ := R.cellAt (j := k * 3 + 1) (by omega)
      obtain ⟨u2, d2⟩ := R.cellAt (j := k * 3 + 2) (by omega)
      have z0 := R.fz (k * 3)
      have z1 := R.fz (k * 3 + 1)
      have z2 := R.fz (k * 3 + 2)
      have N := Lib.hid (And.intro (R.next HX.out hlt) (RW3.nextB (k := k) HB (Nat.le_refl _) (x0, x1, x2)))
      clear R HB hbel b2 hown c0 c1 c2 HX
      unfold AVal
      go_wp2
      go_roundw
      case rel => exact ⟨k + 1, by omega, by go_num, N.out.1, N.out.2⟩
      case measure => simp [intOf]; omega
    · have hkl : k = l.length := by omega
      subst hkl
      obtain ⟨T, ho⟩ := hown.own (Nat.le_refl _) (by unfold maxLen; omega)
      have HR := Lib.hid (OAS.of_new ho)
      clear hown ho
      go_wp2
      go_ret
      exact ⟨_, rfl, HR.out, hbel⟩

/-- A run of the call's own, made when the heap had between lo and hi blocks. -/
def ORun (w : World) (lo hi : Nat) (A B C D : Option Addr) (c d e f : Nat) (r : Rn) : Prop :=
  ∃ p0 p1 p2 p3 s0 s1 : Nat, lo ≤ p0 ∧ p0 ≤ p1 ∧ p1 ≤ p2 ∧ p2 ≤ p3 ∧ p3 ≤ hi ∧ lo ≤ s0 ∧ s0 ≤ s1 ∧ s1 ≤ hi ∧ hi ≤ w.heap.size ∧ (s1 ≤ p0 ∨ p3 ≤ s0) ∧ OSS w p0 p1 A c r.P ∧ OSS w p1 p2 B d r.Q ∧ OAS w p2 p3 C e r.ac ∧ OPS w s0 s1 D f r.pr
section
variable {w w' : World} {lo hi c d e f : Nat} {A B C D : Option Addr} {r : Rn}
theorem ORun.reads (h : ORun w lo hi A B C D c d e f r) : Reads w A B C D r := by
  obtain ⟨_, _, _, _, _, _, _, _, _, _, _, _, _, _, _, _, h1, h2, h3, h4⟩ := h
  exact ⟨h1.iss, h2.iss, h3.al, h4.pl⟩
theorem ORun.keep {lo2 hi2 : Nat} (h : ORun w lo hi A B C D c d e f r) (k : Keep lo2 hi2 w w') (hd : hi ≤ lo2 ∨ hi2 ≤ lo) : ORun w' lo hi A B C D c d e f r := by
  obtain ⟨p0, p1, p2, p3, s0, s1, q0, q1, q2, q3, q4, q5, q6, q7, q8, q9, h1, h2, h3, h4⟩ := h
  exact ⟨p0, p1, p2, p3, s0, s1, q0, q1, q2, q3, q4, q5, q6, q7, Nat.le_trans q8 k.size, q9, h1.keep k (by omega), h2.keep k (by omega), h3.keep k (by omega), h4.keep k (by omega)⟩
theorem ORun.hi_le (h : ORun w lo hi A B C D c d e f r) : hi ≤ w.heap.size := by
  obtain ⟨_, _, _, _, _, _, _, _, _, _, _, _, _, _, h, _⟩ := h
  exact h
theorem ORun.below (h : ORun w lo hi A B C D c d e f r) (hb : Below w.heap.size w w') : ORun w' lo hi A B C D c d e f r := h.keep (Keep.of_below w.heap.size w.heap.size hb) (.inl h.hi_le)
theorem ORun.down (h : ORun w lo hi A B C D c d e f r) {lo2 : Nat} (h2 : lo2 ≤ lo) : ORun w lo2 hi A B C D c d e f r := by
  obtain ⟨p0, p1, p2, p3, s0, s1, q0, q1, q2, q3, q4, q5, q6, q7, q8, q9, h1⟩ := h
  exact ⟨p0, p1, p2, p3, s0, s1, by omega, q1, q2, q3, q4, by omega, q6, q7, q8, q9, h1⟩
end
theorem res_toR {W : World} {b : Nat} {p q x y : Value} (tmps : Array Value) (h2 : tmps.getD 2 undef = .pointer (some ⟨b, 0, none⟩)) (h : RB W b p q x y) :
    (results Try.f43 tmps).run Try.prog W = .ok (.agg #[p, q, x, y]) W := by
  have q0 := h.c0
  have q1 := h.c1
  have q2 := h.c2
  have q3 := h.c3
  rw [results_one rfl, h2]
  go_simp
/-- A copied run. -/
def CopyR (w : World) (r : Rn) (e : Ending) (w' : World) : Prop :=
  ∃ (A B C D : Option Addr) (c d x f : Nat), e = .returned (RVal A B C D c d x f r) ∧ ORun w' w.heap.size w'.heap.size A B C D c d x f r ∧ Below w.heap.size w w'

set_option maxRecDepth 100000 in
set_option maxHeartbeats 3200000 in
theorem toRun_any (A B C D : Option Addr) (c d e f : Nat) (r : Rn) (w : World) (h : Reads w A B C D r) (hl : RLen r 1048576) :
    Calls Try.prog 43 #[RVal A B C D c d e f r] w (CopyR w r) := by
  have ba : Below w.heap.size w (((w.alloc (.cells #[.slice A r.P.length c, .slice B r.Q.length d, .slice C r.ac.length e, .slice D r.pr.length f] 71)).alloc (.cells #[.slice none 0 0, .slice none 0 0, .slice none 0 0, .slice none 0 0] 30)).alloc (.cells #[.slice none 0 0, .slice none 0 0, .slice none 0 0, .slice none 0 0] 30)) := (((Below.refl _ w).alloc (Nat.le_refl _) _).alloc (by simp) _).alloc (by simp; omega) _
  have k1 := ((RB.new w (.slice A r.P.length c) (.slice B r.Q.length d) (.slice C r.ac.length e) (.slice D r.pr.length f) 71).alloc (.cells #[.slice none 0 0, .slice none 0 0, .slice none 0 0, .slice none 0 0] 30)).alloc (.cells #[.slice none 0 0, .slice none 0 0, .slice none 0 0, .slice none 0 0] 30)
  have k2 := (RB.new (w.alloc (.cells #[.slice A r.P.length c, .slice B r.Q.length d, .slice C r.ac.length e, .slice D r.pr.length f] 71)) (.slice none 0 0) (.slice none 0 0) (.slice none 0 0) (.slice none 0 0) 30).alloc (.cells #[.slice none 0 0, .slice none 0 0, .slice none 0 0, .slice none 0 0] 30)
  have k3 := RB.new ((w.alloc (.cells #[.slice A r.P.length c, .slice B r.Q.length d, .slice C r.ac.length e, .slice D r.pr.length f] 71)).alloc (.cells #[.slice none 0 0, .slice none 0 0, .slice none 0 0, .slice none 0 0] 30)) (.slice none 0 0) (.slice none 0 0) (.slice none 0 0) (.slice none 0 0) 30
  have hx : (((w.alloc (.cells #[.slice A r.P.length c, .slice B r.Q.length d, .slice C r.ac.length e, .slice D r.pr.length f] 71)).alloc (.cells #[.slice none 0 0, .slice none 0 0, .slice none 0 0, .slice none 0 0] 30)).alloc (.cells #[.slice none 0 0, .slice none 0 0, .slice none 0 0, .slice none 0 0] 30)).heap.size = w.heap.size + 1 + 1 + 1 := by simp
  rw [World.size_alloc] at k2 k3
  rw [World.size_alloc] at k3
  have H := Lib.hid (And.intro h hl)
  have K := Lib.hid (And.intro k1 (And.intro k2 (And.intro k3 hx)))
  clear h hl k1 k2 k3 hx
  go_enter Try.func43, Try.ntmps43
  go_wp2_with fail
  refine (toConfig_any _ _ _ _ _ _ _ (H.out.1.P.below ba) (H.out.1.Q.below ba) H.out.2.P H.out.2.sP H.out.2.Q H.out.2.sQ).mono ?_
  rintro e w1 ⟨g, g', m, rfl, hm1, hm2, o1, o2, b1⟩
  have S1 := b1.size
  rw [K.out.2.2.2] at S1 hm1 o1
  have k1 := K.out.1.below b1
  have k2 := K.out.2.1.below b1
  have k3 := K.out.2.2.1.below b1
  have B1 := below_step ba b1
  have ks := (set_keep w1 (w.heap.size + 1 + 1) 0 (.slice (some ⟨g, 0, none⟩) r.P.length r.P.length)).trans (set_keep _ (w.heap.size + 1 + 1) 1 (.slice (some ⟨g', 0, none⟩) r.Q.length r.Q.length))
  have M := Lib.hid (And.intro (k1.kept (ks.block _ k1.lt (by omega))) (And.intro (k2.kept (ks.block _ k2.lt (by omega))) (And.intro ((k3.set0 (.slice (some ⟨g, 0, none⟩) r.P.length r.P.length)).set1 (.slice (some ⟨g', 0, none⟩) r.Q.length r.Q.length)) (And.intro (o1.keep ks (.inr (by omega))) (And.intro (o2.keep ks (.inr (by omega))) (And.intro (below_keep B1 ks (by omega)) ((set_size (w1.setCell ⟨w.heap.size + 1 + 1, 0, none⟩ (.slice (some ⟨g, 0, none⟩) r.P.length r.P.length)) ⟨w.heap.size + 1 + 1, 1, none⟩ (.slice (some ⟨g', 0, none⟩) r.Q.length r.Q.length)).trans (set_size w1 _ _))))))))
  have q1 := k1.c2
  have y0 := k3.c0
  have y1 := k3.c1
  have z0 := k3.fz 0
  have z1 := k3.fz 1
  clear k1 k2 k3 B1 ks o1 o2 b1 ba
  go_wp2_with fail
  refine (toAccS_own _ _ _ _ (H.out.1.ac.below M.out.2.2.2.2.2.1) H.out.2.ac).mono ?_
  rintro e w2 ⟨g2, rfl, o3, b2⟩
  have S2 := b2.size
  rw [M.out.2.2.2.2.2.2] at S2 o3
  have k1 := M.out.1.below b2
  have k2 := M.out.2.1.below b2
  have k3 := M.out.2.2.1.below b2
  have o1 := M.out.2.2.2.1.below b2
  have o2 := M.out.2.2.2.2.1.below b2
  have B2 := below_step M.out.2.2.2.2.2.1 b2
  have ks := set_keep w2 (w.heap.size + 1 + 1) 2 (.slice (some ⟨g2, 0, none⟩) r.ac.length r.ac.length)
  have hs1 := M.out.2.2.2.2.2.2
  clear M q1 y0 y1 z0 z1
  have M := Lib.hid (And.intro (k2.kept (ks.block _ k2.lt (by omega))) (And.intro (k3.set2 (.slice (some ⟨g2, 0, none⟩) r.ac.length r.ac.length)) (And.intro (o1.keep ks (.inr (by omega))) (And.intro (o2.keep ks (.inr (by omega))) (And.intro (o3.keep ks (.inr (by omega))) (And.intro (below_keep B2 ks (by omega)) (set_size w2 ⟨w.heap.size + 1 + 1, 2, none⟩ (.slice (some ⟨g2, 0, none⟩) r.ac.length r.ac.length))))))))
  have q1 := k1.c3
  have y0 := k3.c2
  have z0 := k3.fz 2
  clear k1 k2 k3 B2 ks o1 o2 o3 b2
  go_wp2_with fail
  refine (toPrS_any _ _ _ _ (H.out.1.pr.below M.out.2.2.2.2.2.1) H.out.2.pr H.out.2.sv).mono ?_
  rintro e w3 ⟨g3, rfl, o4, b3⟩
  have S3 := b3.size
  rw [M.out.2.2.2.2.2.2] at S3 o4
  have k2 := M.out.1.below b3
  have k3 := M.out.2.1.below b3
  have o1 := M.out.2.2.1.below b3
  have o2 := M.out.2.2.2.1.below b3
  have o3 := M.out.2.2.2.2.1.below b3
  have B3 := below_step M.out.2.2.2.2.2.1 b3
  have ks := set_keep w3 (w.heap.size + 1 + 1) 3 (.slice (some ⟨g3, 0, none⟩) r.pr.length r.pr.length)
  have k3s := k3.set3 (.slice (some ⟨g3, 0, none⟩) r.pr.length r.pr.length)
  have kr := setR_keep (w3.setCell ⟨w.heap.size + 1 + 1, 3, none⟩ (.slice (some ⟨g3, 0, none⟩) r.pr.length r.pr.length)) (w.heap.size + 1) (.slice (some ⟨g, 0, none⟩) r.P.length r.P.length) (.slice (some ⟨g', 0, none⟩) r.Q.length r.Q.length) (.slice (some ⟨g2, 0, none⟩) r.ac.length r.ac.length) (.slice (some ⟨g3, 0, none⟩) r.pr.length r.pr.length)
  have kk := (ks.wide (lo2 := w.heap.size + 1) (by omega) (Nat.le_refl _)).trans (kr.wide (Nat.le_refl _) (by omega))
  have hsz := (setR_size (w3.setCell ⟨w.heap.size + 1 + 1, 3, none⟩ (.slice (some ⟨g3, 0, none⟩) r.pr.length r.pr.length)) (w.heap.size + 1) (.slice (some ⟨g, 0, none⟩) r.P.length r.P.length) (.slice (some ⟨g', 0, none⟩) r.Q.length r.Q.length) (.slice (some ⟨g2, 0, none⟩) r.ac.length r.ac.length) (.slice (some ⟨g3, 0, none⟩) r.pr.length r.pr.length)).trans (set_size w3 _ _)
  have k4 := (k2.kept (ks.block _ k2.lt (by omega))).setR (.slice (some ⟨g, 0, none⟩) r.P.length r.P.length) (.slice (some ⟨g', 0, none⟩) r.Q.length r.Q.length) (.slice (some ⟨g2, 0, none⟩) r.ac.length r.ac.length) (.slice (some ⟨g3, 0, none⟩) r.pr.length r.pr.length)
  clear M q1 y0 z0
  have q0 := k3.c0
  have q1 := k3.c1
  have q2 := k3.c2
  have q3 := k3.c3
  have p0 := k2.c0
  have p1 := k2.c1
  have p2 := k2.c2
  have p3 := k2.c3
  have z3 := k3.fz 3
  have y0 := k2.fz 0
  have y1 := k2.fz 1
  have y2 := k2.fz 2
  have y3 := k2.fz 3
  have M := Lib.hid (And.intro k4 (And.intro (o1.keep kk (.inr (by omega))) (And.intro (o2.keep kk (.inr (by omega))) (And.intro (o3.keep kk (.inr (by omega))) (And.intro (o4.keep kk (.inr (by omega))) (And.intro (below_keep B3 kk (by omega)) hsz))))))
  clear k2 k3 k3s B3 ks kr kk k4 o1 o2 o3 o4 b3 K hsz
  go_wp2
  refine bodyPost_ret (res_toR _ rfl M.out.1) rfl ⟨_, _, _, _, _, _, _, _, rfl, ?_, M.out.2.2.2.2.2.1⟩
  have hz := M.out.2.2.2.2.2.2
  refine ⟨w.heap.size + 1 + 1 + 1, m, w1.heap.size, w2.heap.size, w2.heap.size, w3.heap.size, by omega, hm1, hm2, S2, ?_, by omega, S3, ?_, Nat.le_refl _, .inr (Nat.le_refl _), M.out.2.1, M.out.2.2.1, M.out.2.2.2.1, M.out.2.2.2.2.1⟩
  · exact Nat.le_trans S3 (Nat.le_of_eq hz.symm)
  · exact Nat.le_of_eq hz.symm
end Go.Proofs.Ytbkdhjmfphhhoaa

/- Configurations, runs and steps as arguments, as the row's opening gives them. -/
namespace Go.Proofs.Ytbkdhjmfphhhoaa
open Go.RowKit Go.Deep Go.ChangeShapes Go.WideShapes Go.Joins

section
variable {H : Type} {enc : TypeId × Value → H} {w : World} {held : Bool}
set_option maxRecDepth 100000 in
theorem iss_of_cells {fuel : Nat} {cs : List Value} {x : DataW H × List MemPlace} (h : DataW.trod enc Try.prog w 0 (fun _ => true) held fuel 23 cs = some x) :
    ∃ (A : Option Addr) (c : Nat) (F : List (List Int)), cs = [.slice A F.length c] ∧ ISS w A F ∧ F.length ≤ maxLen ∧ Short F maxLen := by
  rcases open_int_rows Try.underlying23 Try.underlying37 Try.underlying3 (by kernel_rfl) (by kernel_rfl) h with ⟨hcs, _⟩ | ⟨y, l, c, A', L, C, Z, hcs, _, hl, hm, _, hrow⟩
  · exact ⟨none, 0, [], hcs, .inl rfl, Nat.zero_le _, fun l hl => by cases hl⟩
  · obtain ⟨F, h1, h2, h3⟩ := iss_of_rows hl hrow
    exact ⟨some y, c, F, by rw [h1]; exact hcs, h2, by rw [h1]; exact Nat.le_trans hl hm, h3⟩
set_option maxRecDepth 100000 in
theorem il_of_cells {fuel : Nat} {cs : List Value} {x : DataW H × List MemPlace} (h : DataW.trod enc Try.prog w 0 (fun _ => true) held fuel 37 cs = some x) :
    ∃ (A : Option Addr) (c : Nat) (l : List Int), cs = [.slice A l.length c] ∧ IL w A l ∧ l.length ≤ maxLen := by
  rcases open_ints Try.underlying37 Try.underlying3 (by kernel_rfl) h with ⟨hcs, _⟩ | ⟨y, l, c, zs, hcs, _, hl, hm, hz, _, hcell, hwz⟩
  · exact ⟨none, 0, [], hcs, .inl rfl, Nat.zero_le _⟩
  · obtain ⟨l', h1, h2, h3⟩ := il_of_row (a := some y) (len := l) (cap := c) (zs := zs) (.inr ⟨_, rfl, hl, hm, by simpa using hz, hcell, hwz⟩)
    exact ⟨some y, c, l', by rw [h1]; exact hcs, h3, by rw [h1]; exact h2⟩
set_option maxRecDepth 100000 in
theorem al_of_cells {fuel : Nat} {cs : List Value} {x : DataW H × List MemPlace} (h : DataW.trod enc Try.prog w 0 (fun _ => true) held fuel 68 cs = some x) :
    ∃ (A : Option Addr) (c : Nat) (l : List Ac), cs = [.slice A l.length c] ∧ AL w A l ∧ l.length ≤ maxLen := by
  have key : ∃ (A : Option Addr) (n c : Nat), cs = [.slice A n c] := by
    rcases open_slice Try.underlying68 h with ⟨hcs, _⟩ | ⟨a', len', cap', m, n, D, Pl, hcs, _⟩
    · exact ⟨_, _, _, hcs⟩
    · exact ⟨_, _, _, hcs⟩
  obtain ⟨A, n, c, rfl⟩ := key
  obtain ⟨l, h1, h2, h3⟩ := al_of_arg (a := A) (len := n) (cap := c) h
  exact ⟨A, c, l, by rw [h1], h3, by rw [h1]; exact h2⟩
set_option maxRecDepth 100000 in
theorem pl_of_cells {fuel : Nat} {cs : List Value} {x : DataW H × List MemPlace} (h : DataW.trod enc Try.prog w 0 (fun _ => true) held fuel 69 cs = some x) :
    ∃ (A : Option Addr) (c : Nat) (l : List Pr), cs = [.slice A l.length c] ∧ PL w A l ∧ l.length ≤ maxLen ∧ Short (pvs l) maxLen := by
  rcases open_slice Try.underlying69 h with ⟨hcs, _⟩ | ⟨a', len, cap, m, n, D, Pl, hcs, _, hl, hm, hmm, _, hi⟩
  · exact ⟨none, 0, [], hcs, .inl rfl, Nat.zero_le _, fun l hl => by cases hl⟩
  · have hC : Try.prog.cellsOf 164 = 3 := by kernel_rfl
    have hCi : Try.prog.cellsOf 3 = 1 := by kernel_rfl
    have hCs : Try.prog.cellsOf 37 = 1 := by kernel_rfl
    have hlm : len ≤ m := by rw [hmm]; simp; omega
    have key : ∀ i, ∃ (p : Pr) (B : Option Addr) (d : Nat), i < len → w.cell? (a'.add (i * 3)) = some (.int .i64 p.1) ∧ w.cell? (a'.add (i * 3 + 1)) = some (.int .i64 p.2.1) ∧ w.cell? (a'.add (i * 3 + 2)) = some (.slice B p.2.2.length d) ∧ IL w B p.2.2 ∧ p.2.2.length ≤ maxLen := by
      intro i
      by_cases hlt : i < len
      · obtain ⟨cs', hc, ht⟩ := hi i (by omega)
        rw [hC] at hc
        obtain ⟨_, hcl, hat⟩ := World.cells?_some hc
        obtain ⟨ys, n', _, _, _, hyl, hf⟩ := DataW.trod_struct Try.underlying164 ht
        match cs', hcl with
        | [u0, u1, u2], _ =>
          have h0 : DataW.trod enc Try.prog w 0 (fun _ => true) held n' 3 (([u0, u1, u2].drop 0).take (Try.prog.cellsOf 3)) = ys[0]? := hf 0 _ rfl
          have h1 : DataW.trod enc Try.prog w 0 (fun _ => true) held n' 3 (([u0, u1, u2].drop 1).take (Try.prog.cellsOf 3)) = ys[1]? := hf 1 _ rfl
          have h2 : DataW.trod enc Try.prog w 0 (fun _ => true) held n' 37 (([u0, u1, u2].drop 2).take (Try.prog.cellsOf 37)) = ys[2]? := hf 2 _ rfl
          rw [hCi] at h0 h1
          rw [hCs] at h2
          match ys, hyl with
          | [y0, y1, y2], _ =>
            obtain ⟨x0, e0, _⟩ := DataW.trod_int Try.underlying3 h0
            obtain ⟨x1, e1, _⟩ := DataW.trod_int Try.underlying3 h1
            obtain ⟨B, d, s, e2, hil, hsm⟩ := il_of_cells h2
            simp at e0 e1 e2
            have a0 := hat 0 (by omega)
            have a1 := hat 1 (by omega)
            have a2 := hat 2 (by omega)
            rw [Go.Deep.add_add] at a0 a1 a2
            exact ⟨(x0, x1, s), B, d, fun _ => ⟨by simpa [e0] using a0, by simpa [e1] using a1, by simpa [e2] using a2, hil, hsm⟩⟩
      · exact ⟨(0, 0, []), none, 0, fun h => absurd h hlt⟩
    obtain ⟨f, hf⟩ := Classical.axiomOfChoice key
    obtain ⟨B, hB⟩ := Classical.axiomOfChoice hf
    obtain ⟨d, hd⟩ := Classical.axiomOfChoice hB
    refine ⟨some a', cap, (List.range len).map f, by simpa using hcs, ?_, by simpa using Nat.le_trans hl hm, fun l hl' => ?_⟩
    · rcases Nat.eq_zero_or_pos len with h0 | h0
      · subst h0; left; simp
      · right
        obtain ⟨b, off, spot⟩ := a'
        have hspot : spot = none := by simpa [Addr.add] using World.cell?_spot (hd 0 h0).1
        subst hspot
        refine ⟨b, off, rfl, World.block_lt_of_cell? w _ (hd 0 h0).1, fun k p hk => ?_⟩
        have hkl : k < len := by simpa using (List.getElem?_eq_some_iff.1 hk).1
        have hpf : p = f k := by simp [hkl] at hk; exact hk.symm
        subst hpf
        obtain ⟨c0, c1, c2, c3, _⟩ := hd k hkl
        rw [Addr.add_lit] at c0 c1 c2
        exact ⟨c0, c1, B k, d k, c2, c3⟩
    · obtain ⟨p, hp, rfl⟩ := List.mem_map.1 hl'
      obtain ⟨k, hk, rfl⟩ := List.mem_map.1 hp
      exact (hd k (List.mem_range.1 hk)).2.2.2.2

set_option maxRecDepth 100000 in
theorem cfg_of_cells {fuel : Nat} {cs : List Value} {x : DataW H × List MemPlace} (h : DataW.trod enc Try.prog w 0 (fun _ => true) held fuel 61 cs = some x) :
    ∃ (A B : Option Addr) (c d : Nat) (F G : List (List Int)), cs = [.slice A F.length c, .slice B G.length d] ∧ ISS w A F ∧ ISS w B G ∧ F.length ≤ maxLen ∧ Short F maxLen ∧ G.length ≤ maxLen ∧ Short G maxLen := by
  have hC : Try.prog.cellsOf 61 = 2 := by kernel_rfl
  have hCs : Try.prog.cellsOf 23 = 1 := by kernel_rfl
  obtain ⟨ys, n', _, _, hcl, hyl, hf⟩ := DataW.trod_struct Try.underlying61 h
  rw [hC] at hcl
  match cs, hcl with
  | [u0, u1], _ =>
    have h0 : DataW.trod enc Try.prog w 0 (fun _ => true) held n' 23 (([u0, u1].drop 0).take (Try.prog.cellsOf 23)) = ys[0]? := hf 0 _ rfl
    have h1 : DataW.trod enc Try.prog w 0 (fun _ => true) held n' 23 (([u0, u1].drop 1).take (Try.prog.cellsOf 23)) = ys[1]? := hf 1 _ rfl
    rw [hCs] at h0 h1
    match ys, hyl with
    | [y0, y1], _ =>
      obtain ⟨A, c, F, e0, i0, m0, s0⟩ := iss_of_cells h0
      obtain ⟨B, d, G, e1, i1, m1, s1⟩ := iss_of_cells h1
      simp at e0 e1
      exact ⟨A, B, c, d, F, G, by rw [e0, e1], i0, i1, m0, s0, m1, s1⟩
set_option maxRecDepth 100000 in
theorem run_of_cells {fuel : Nat} {cs : List Value} {x : DataW H × List MemPlace} (h : DataW.trod enc Try.prog w 0 (fun _ => true) held fuel 71 cs = some x) :
    ∃ (A B C D : Option Addr) (c d e f : Nat) (r : Rn), cs = [.slice A r.P.length c, .slice B r.Q.length d, .slice C r.ac.length e, .slice D r.pr.length f] ∧ Reads w A B C D r ∧ RLen r maxLen := by
  have hC : Try.prog.cellsOf 71 = 4 := by kernel_rfl
  have hCc : Try.prog.cellsOf 61 = 2 := by kernel_rfl
  have hCa : Try.prog.cellsOf 68 = 1 := by kernel_rfl
  have hCp : Try.prog.cellsOf 69 = 1 := by kernel_rfl
  obtain ⟨ys, n', _, _, hcl, hyl, hf⟩ := DataW.trod_struct Try.underlying71 h
  rw [hC] at hcl
  match cs, hcl with
  | [u0, u1, u2, u3], _ =>
    have h0 : DataW.trod enc Try.prog w 0 (fun _ => true) held n' 61 (([u0, u1, u2, u3].drop 0).take (Try.prog.cellsOf 61)) = ys[0]? := hf 0 _ rfl
    have h1 : DataW.trod enc Try.prog w 0 (fun _ => true) held n' 68 (([u0, u1, u2, u3].drop 2).take (Try.prog.cellsOf 68)) = ys[1]? := hf 1 _ rfl
    have h2 : DataW.trod enc Try.prog w 0 (fun _ => true) held n' 69 (([u0, u1, u2, u3].drop 3).take (Try.prog.cellsOf 69)) = ys[2]? := hf 2 _ rfl
    rw [hCc] at h0
    rw [hCa] at h1
    rw [hCp] at h2
    match ys, hyl with
    | [y0, y1, y2], _ =>
      obtain ⟨A, B, c, d, F, G, e0, i0, i1, m0, s0, m1, s1⟩ := cfg_of_cells h0
      obtain ⟨C, e, l, e1, i2, m2⟩ := al_of_cells h1
      obtain ⟨D, f, p, e2, i3, m3, s3⟩ := pl_of_cells h2
      simp at e0 e1 e2
      exact ⟨A, B, C, D, c, d, e, f, ⟨F, G, l, p⟩, by rw [e0.1, e0.2, e1, e2], ⟨i0, i1, i2, i3⟩, ⟨m0, m1, m2, m3, s0, s1, s3⟩⟩
set_option maxRecDepth 100000 in
theorem run_of_arg {rr : Reach} {b0 : Nat} {v : Value} {d0 : DataW H} {p0 : List MemPlace} (hv : Value.okWide Try.prog w rr b0 71 v) (h : DataW.Trod enc Try.prog w 0 (fun _ => true) held 71 v d0 p0) :
    ∃ (A B C D : Option Addr) (c d e f : Nat) (r : Rn), v = RVal A B C D c d e f r ∧ Reads w A B C D r ∧ RLen r maxLen := by
  obtain ⟨cs, rfl, _⟩ := okWide_struct Try.underlying71 hv
  obtain ⟨fuel, hf⟩ := h
  obtain ⟨A, B, C, D, c, d, e, f, r, e0, h1, h2⟩ := run_of_cells hf
  refine ⟨A, B, C, D, c, d, e, f, r, ?_, h1, h2⟩
  simp [Value.cells] at e0
  rw [show cs = #[.slice A r.P.length c, .slice B r.Q.length d, .slice C r.ac.length e, .slice D r.pr.length f] by cases cs; simp_all]
set_option maxRecDepth 100000 in
theorem cfg_of_arg {rr : Reach} {b0 : Nat} {v : Value} {d0 : DataW H} {p0 : List MemPlace} (hv : Value.okWide Try.prog w rr b0 61 v) (h : DataW.Trod enc Try.prog w 0 (fun _ => true) held 61 v d0 p0) :
    ∃ (A B : Option Addr) (c d : Nat) (F G : List (List Int)), v = .agg #[.slice A F.length c, .slice B G.length d] ∧ ISS w A F ∧ ISS w B G ∧ F.length ≤ maxLen ∧ Short F maxLen ∧ G.length ≤ maxLen ∧ Short G maxLen := by
  obtain ⟨cs, rfl, _⟩ := okWide_struct Try.underlying61 hv
  obtain ⟨fuel, hf⟩ := h
  obtain ⟨A, B, c, d, F, G, e0, h1⟩ := cfg_of_cells hf
  refine ⟨A, B, c, d, F, G, ?_, h1⟩
  simp [Value.cells] at e0
  rw [show cs = #[.slice A F.length c, .slice B G.length d] by cases cs; simp_all]
end
end Go.Proofs.Ytbkdhjmfphhhoaa
