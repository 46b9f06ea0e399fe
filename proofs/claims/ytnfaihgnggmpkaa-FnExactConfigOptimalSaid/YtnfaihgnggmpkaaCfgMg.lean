/- The laws' helpers on configurations, by their contracts. -/
import Derived.Test.YtnfaihgnggmpkaaCfgOg
import Derived.Test.YtnfaihgnggmpkaaGd
namespace Go.Proofs.Ytnfaihgnggmpkaa
open Go.RowKit

abbrev CV (A : Option Addr) (n c : Nat) (B : Option Addr) (m d : Nat) : Value := .agg #[.slice A n c, .slice B m d]
set_option maxRecDepth 100000 in
set_option maxHeartbeats 1600000 in
/-- Two configurations that read as the same lists are equal. -/
theorem eqConfig_yes (A B A' B' : Option Addr) (c d c' d' : Nat) (F G : List (List Int)) (w : World) (h1 : ISS w A F) (h2 : ISS w B G) (h3 : ISS w A' F) (h4 : ISS w B' G) (hF : F.length ≤ 1048576) (sF : Short F 1048576) (hG : G.length ≤ 1048576) (sG : Short G 1048576) :
    Calls Try.prog 12 #[.agg #[.slice A F.length c, .slice B G.length d], .agg #[.slice A' F.length c', .slice B' G.length d']] w fun e w' => e = .returned (.bool true) ∧ Below w.heap.size w w' := by
  have ba : Below w.heap.size w ((w.alloc (.cells #[.slice A F.length c, .slice B G.length d] 26)).alloc (.cells #[.slice A' F.length c', .slice B' G.length d'] 26)) := ((Below.refl _ w).alloc (Nat.le_refl _) _).alloc (by simp) _
  have cb : CB ((w.alloc (.cells #[.slice A F.length c, .slice B G.length d] 26)).alloc (.cells #[.slice A' F.length c', .slice B' G.length d'] 26)) w.heap.size (.slice A F.length c) (.slice B G.length d) :=
    (CB.new w _ _).below ((Below.refl _ _).alloc (Nat.le_refl _) _)
  have cb' : CB ((w.alloc (.cells #[.slice A F.length c, .slice B G.length d] 26)).alloc (.cells #[.slice A' F.length c', .slice B' G.length d'] 26)) (w.heap.size + 1) (.slice A' F.length c') (.slice B' G.length d') := by
    have := CB.new (w.alloc (.cells #[.slice A F.length c, .slice B G.length d] 26)) (.slice A' F.length c') (.slice B' G.length d')
    rwa [World.size_alloc] at this
  go_enter Try.func12, Try.ntmps12
  go_wp2_with fail
  refine (eqIntSS_yes _ _ _ _ _ _ (h1.below ba) (h3.below ba) hF sF).mono ?_
  rintro e w1 ⟨rfl, d1⟩
  have b1 := below_step ba d1.below
  have cb1 := cb.below d1.below
  have cb1' := cb'.below d1.below
  have q1 := cb1.c1
  have q2 := cb1'.c1
  clear ba cb cb' d1
  go_wp2_with fail
  refine (eqIntSS_yes _ _ _ _ _ _ (h2.below b1) (h4.below b1) hG sG).mono ?_
  rintro e w2 ⟨rfl, d2⟩
  have b2 := below_step b1 d2.below
  clear b1 d2
  go_wp2
  go_ret
  exact ⟨rfl, b2⟩

theorem Keep.wide {lo hi lo2 hi2 : Nat} {w w' : World} (h : Keep lo hi w w') (h1 : lo2 ≤ lo) (h2 : hi ≤ hi2) : Keep lo2 hi2 w w' := by
  obtain ⟨a, b, c, d, e⟩ := h
  exact ⟨a, b, c, d, fun i hi hn => e i hi (by omega)⟩

set_option maxRecDepth 100000 in
set_option maxHeartbeats 1600000 in
/-- Marks are written into both systems of a configuration. -/
theorem markConfig_own (lo m hi : Nat) (A B : Option Addr) (c d : Nat) (F G : List (List Int)) (k : Nat) (K : Int) (hK : K = (k : Int)) (w : World) (h1 : OSS w lo m A c F) (h2 : OSS w m hi B d G) (hm : lo ≤ m) (hh : m ≤ hi) (hF : F.length ≤ 1048576) (sF : wt F ≤ 1048576) (hG : G.length ≤ 1048576) (sG : wt G ≤ 1048576) (hk : k + wt F ≤ 1048577) :
    Calls Try.prog 15 #[.agg #[.slice A F.length c, .slice B G.length d], .int .i64 K] w fun e w' =>
      e = .returned (.int .i64 (K + wt F + wt G)) ∧ OSS w' lo m A c (markSS k F) ∧ OSS w' m hi B d (markSS (k + wt F) G) ∧ Keep lo hi w w' := by
  have HK := Lib.hid hK
  have HS := Lib.hid (And.intro hk (And.intro sF sG))
  clear hK hk sF sG
  have ba : Below w.heap.size w (w.alloc (.cells #[.slice A F.length c, .slice B G.length d] 26)) := (Below.refl _ w).alloc (Nat.le_refl _) _
  have cb := CB.new w (.slice A F.length c) (.slice B G.length d)
  have hhi := h2.hi_le
  have g1 := h1.below ba
  have g2 := h2.below ba
  clear h1 h2
  go_enter Try.func15, Try.ntmps15
  go_wp2_with fail
  refine (markSS_i _ _ _ _ _ k _ HK.out _ g1 hF HS.out.2.1 (by have := HS.out.1; omega)).mono ?_
  rintro e w1 ⟨rfl, o1, k1⟩
  have o2 := g2.keep k1 (.inr (Nat.le_refl _))
  have cb1 : CB w1 w.heap.size (.slice A F.length c) (.slice B G.length d) := cb.kept (k1.block _ (by simp) (by omega))
  have q1 := cb1.c1
  have kk := (Keep.of_below lo hi ba).trans (k1.wide (Nat.le_refl _) hh)
  clear g1 g2 cb cb1 ba k1
  go_wp2_with fail
  refine (markSS_i _ _ _ _ _ (k + wt F) _ (by rw [HK.out, Int.natCast_add]) _ o2 hG HS.out.2.2 HS.out.1).mono ?_
  rintro e w2 ⟨rfl, o3, k2⟩
  have o4 := o1.keep k2 (.inl (Nat.le_refl _))
  have kk2 := kk.trans (k2.wide hm (Nat.le_refl _))
  clear o1 o2 kk k2
  go_wp2
  go_ret
  exact ⟨rfl, o4, o3, kk2⟩

set_option maxRecDepth 100000 in
set_option maxHeartbeats 1600000 in
theorem heldConfig_any (A B : Option Addr) (c d : Nat) (F G : List (List Int)) (k : Nat) (K : Int) (hK : K = (k : Int)) (w : World) (h1 : ISS w A (markSS k F)) (h2 : ISS w B (markSS (k + wt F) G)) (hF : F.length ≤ 1048576) (sF : wt F ≤ 1048576) (hG : G.length ≤ 1048576) (sG : wt G ≤ 1048576) (hk : k + wt F ≤ 1048577) :
    Calls Try.prog 16 #[.agg #[.slice A F.length c, .slice B G.length d], .int .i64 K] w fun e w' =>
      e = .returned (.int .i64 (K + wt F + wt G)) ∧ Below w.heap.size w w' := by
  have ba : Below w.heap.size w (w.alloc (.cells #[.slice A F.length c, .slice B G.length d] 26)) := (Below.refl _ w).alloc (Nat.le_refl _) _
  have n1 : decide (K + (wt F : Int) < 0) = false := decide_eq_false (by omega)
  have n2 : decide (K + (wt F : Int) + (wt G : Int) < 0) = false := decide_eq_false (by omega)
  have HK := Lib.hid hK
  have HS := Lib.hid (And.intro hk (And.intro sF sG))
  clear hK hk sF sG
  go_enter Try.func16, Try.ntmps16
  go_wp2_with fail
  refine (heldSS_i _ _ _ k _ HK.out _ (h1.below ba) hF HS.out.2.1 (by have := HS.out.1; omega)).mono ?_
  rintro e w' ⟨rfl, rfl⟩
  go_wp2_with fail
  refine (heldSS_i _ _ _ (k + wt F) _ (by rw [HK.out, Int.natCast_add]) _ (h2.below ba) hG HS.out.2.2 HS.out.1).mono ?_
  rintro e w' ⟨rfl, rfl⟩
  go_wp2
  go_ret
  exact ⟨rfl, ba⟩

set_option maxRecDepth 100000 in
set_option maxHeartbeats 1600000 in
/-- Two configurations that read as the same lists are the same. -/
theorem sameConfig_yes (A B A' B' : Option Addr) (c d c' d' : Nat) (F G : List (List Int)) (w : World) (h1 : ISS w A F) (h2 : ISS w B G) (h3 : ISS w A' F) (h4 : ISS w B' G) (hF : F.length ≤ 1048576) (sF : Short F 1048576) (hG : G.length ≤ 1048576) (sG : Short G 1048576) :
    Calls Try.prog 8 #[.agg #[.slice A F.length c, .slice B G.length d], .agg #[.slice A' F.length c', .slice B' G.length d']] w fun e w' => e = .returned (.bool true) ∧ Below w.heap.size w w' := by
  have ba : Below w.heap.size w ((w.alloc (.cells #[.slice A F.length c, .slice B G.length d] 26)).alloc (.cells #[.slice A' F.length c', .slice B' G.length d'] 26)) := ((Below.refl _ w).alloc (Nat.le_refl _) _).alloc (by simp) _
  have cb : CB ((w.alloc (.cells #[.slice A F.length c, .slice B G.length d] 26)).alloc (.cells #[.slice A' F.length c', .slice B' G.length d'] 26)) w.heap.size (.slice A F.length c) (.slice B G.length d) :=
    (CB.new w _ _).below ((Below.refl _ _).alloc (Nat.le_refl _) _)
  have cb' : CB ((w.alloc (.cells #[.slice A F.length c, .slice B G.length d] 26)).alloc (.cells #[.slice A' F.length c', .slice B' G.length d'] 26)) (w.heap.size + 1) (.slice A' F.length c') (.slice B' G.length d') := by
    have := CB.new (w.alloc (.cells #[.slice A F.length c, .slice B G.length d] 26)) (.slice A' F.length c') (.slice B' G.length d')
    rwa [World.size_alloc] at this
  go_enter Try.func8, Try.ntmps8
  go_wp2_with fail
  refine (sameSets_yes _ _ _ _ _ _ (h1.below ba) (h3.below ba) hF sF).mono ?_
  rintro e w1 ⟨rfl, d1⟩
  have b1 := below_step ba d1.below
  have cb1 := cb.below d1.below
  have cb1' := cb'.below d1.below
  have q1 := cb1.c1
  have q2 := cb1'.c1
  clear ba cb cb' d1
  go_wp2_with fail
  refine (sameSets_yes _ _ _ _ _ _ (h2.below b1) (h4.below b1) hG sG).mono ?_
  rintro e w2 ⟨rfl, d2⟩
  have b2 := below_step b1 d2.below
  clear b1 d2
  go_wp2
  go_ret
  exact ⟨rfl, b2⟩
end Go.Proofs.Ytnfaihgnggmpkaa
