/- Drawn expressions by their contracts. -/
import Derived.Test.YtlmlplbpebfkbaaDrawX
namespace Go.Proofs.Ytlmlplbpebfkbaa
open Go.RowKit

/-- A text of the reader's, with how far it has come. -/
def KX (w : World) (g p : Nat) (w' : World) : Prop := w.grownBy w' (some g) ∧ ∃ q, q ≤ p + 30 ∧ RdX w' g q
theorem KX.drew {w w' : World} {g p : Nat} (h : KX w g p w') : KX w g p w'.drew := ⟨only_drew h.1 1, by obtain ⟨q, h1, h2⟩ := h.2; exact ⟨q, h1, h2.below ((Below.refl _ _).drew)⟩⟩
theorem KX.alloc {w w' : World} {g p : Nat} (h : KX w g p w') (o : Obj) : KX w g p (w'.alloc o) := ⟨grown_allocD h.1 o, by obtain ⟨q, h1, h2⟩ := h.2; exact ⟨q, h1, new_rd h2 o⟩⟩
theorem kcK {w W W' : World} {g p q : Nat} (hg : W.grownBy W' (some g)) (hr : RdX W' g q) (hq : q ≤ p + 30) (h : KX w g p W) : KX w g p W' := ⟨grown_trans h.1 hg, q, hq, hr⟩
theorem cat0 {a q p : Nat} (h : q ≤ a + 1) (h2 : a ≤ p + 28) : q ≤ p + 30 := by omega
theorem catA {n z x : Nat} (hn : n + 1 ≤ z) (hz : z ≤ 40) (hx : x ≤ 1) : ¬ 9223372036854775807 < n + x := by omega
theorem catB {n z x : Nat} (hn : n + 1 ≤ z) (hz : z ≤ 40) (hx : x ≤ 1) : ¬ 9223372036854775807 < n + x + (z - (n + 1)) := by omega
theorem DrawnS.ofK {w w' : World} {g p : Nat} {x : ByteArray} (h : KX w g p w') (hx : x.size ≤ 60) : DrawnS w g p 30 0 60 (.returned (.string x)) w' := by
  obtain ⟨q, h1, h2⟩ := h.2
  exact ⟨x, q, Nat.zero_le _, hx, rfl, h2, h1, h.1⟩
def marksX : List ByteArray := [⟨#[48]⟩, ⟨#[40]⟩, ⟨#[41]⟩, ⟨#[44]⟩, ⟨#[55]⟩, ⟨#[]⟩]
def samples : List ByteArray := [⟨#[50, 40, 49, 44, 50, 44, 51, 41]⟩, ⟨#[51, 40, 49, 44, 50, 44, 51, 44, 52, 44, 53, 41]⟩, ⟨#[50, 40, 49, 40, 49, 44, 50, 41, 44, 49, 40, 51, 44, 52, 41, 41]⟩, ⟨#[49, 40, 50, 40, 49, 44, 50, 41, 44, 50, 40, 51, 44, 52, 41, 41]⟩, ⟨#[50, 40, 50, 40, 49, 44, 50, 44, 51, 41, 44, 50, 40, 52, 44, 53, 44, 54, 41, 41]⟩]

set_option maxRecDepth 100000 in
set_option maxHeartbeats 6400000 in
theorem l91Expr_any (g p : Nat) (w : World) (h : RdX w g p) (hp : p ≤ 1000) :
    Calls Try.prog 33 #[.pointer (some ⟨g, 0, none⟩)] w (DrawnS w g p 30 0 60) := by
  go_enter Try.func33, Try.ntmps33
  go_wp2_with fail
  refine (pickX _ _ 6 _ h (by omega) (by omega) (by omega)).mono ?_
  rintro e v0 ⟨u, u0, u1, rfl, r0, g0⟩
  clear h
  by_cases hu0 : u = 0
  · have hb0 : (u == 0) = true := by simpa using hu0
    clear hu0
    go_wp2_with fail
    refine (l91Leaf_any g _ _ r0 (by omega)).mono ?_
    rintro e v1 ⟨t1, q1, lt1, ut1, rfl, r1, hq1, hg1⟩
    have g1 := grown_trans g0 hg1
    clear hg1 g0 r0
    go_wp2_with fail
    refine (pickX _ _ 20 _ r1 (by omega) (by omega) (by omega)).mono ?_
    rintro e wz ⟨z, z0, z1, rfl, hrz, hgz⟩
    have gz := grown_trans g1 hgz
    clear hgz g1 r1
    by_cases hz : z = 0
    · have hzb : (z == 0) = true := by simpa using hz
      clear hz
      go_wp2_with fail
      refine (pickX _ _ (t1.size : Int) _ hrz (by omega) (by omega) (by omega)).mono ?_
      rintro e wy ⟨y, y0, y1, rfl, hry, hgy⟩
      obtain ⟨n, rfl⟩ := Int.eq_ofNat_of_zero_le y0
      have hn : n + 1 ≤ t1.size := by omega
      have gy := grown_trans gz hgy
      clear hgy gz hrz
      have hn0 : (0 : Int) ≤ (n : Int) := by omega
      have hn1 : (n : Int) ≤ (t1.size : Int) := by omega
      have hn2 : (0 : Int) ≤ (n : Int) + 1 := by omega
      have hn3 : (n : Int) + 1 ≤ (t1.size : Int) := by omega
      have hn4 : IntKind.i64.wrap ((n : Int) + 1) = (n : Int) + 1 := IntWalk.i64_in _ (by omega)
      have hn5 : n ≤ t1.size := by omega
      have K5 : KX w g p wy := ⟨gy, _, by omega, hry⟩
      have hqq : q1 + 1 + 1 ≤ p + 28 := by omega
      have hqb : q1 + 1 + 1 ≤ 900000 := by omega
      have hlty := hry.lt
      have hry' : RdX (wy.alloc (.cells (marksX.map Value.string).toArray 9)).drew g (q1 + 1 + 1) := hry.below (((Below.refl _ _).alloc (Nat.le_refl _) _).drew)
      have hby : Texts (wy.alloc (.cells (marksX.map Value.string).toArray 9)).drew wy.heap.size 6 0 1 := texts_new wy marksX 0 1 (by decide)
      have hbz : t1.size ≤ 40 := by omega
      have h16 : 1 ≤ 6 := by decide
      have h61 : 6 ≤ 1000 := by decide
      clear hry gy
      go_wp2
      go_region_held3 (fun w' => KX w g p w')
        (first | assumption | exact K5.drew | exact (K5.alloc _).drew | (apply kcK g6 hr6 f0; assumption) | fail)
        (first
          | (go_at_call 54; refine (ofX g (q1 + 1 + 1) wy.heap.size 6 0 1 _ hry' hqb hby hlty h16 h61).mono ?_; rintro e w6 ⟨xs, q6, lo6, hx1, rfl, hr6, hq6, g6⟩; have f0 := cat0 hq6 hqq; have f1 := catA hn hbz hx1; have f2 := catB hn hbz hx1)
          | fail)
      all_goals go_wp2
      all_goals go_ret
      all_goals exact DrawnS.ofK (by assumption) (by simp [ByteArray.size_append, ByteArray.size_extract]; omega)
    · have hzb : (z == 0) = false := by simpa using hz
      have D := Lib.hid (show DrawnS w g p 30 0 60 (.returned (.string t1)) wz from ⟨_, _, by omega, by omega, rfl, hrz, by omega, gz⟩)
      clear hz hrz gz
      go_wp2_with fail
      go_ret
      exact D.out
  · have hb0 : (u == 0) = false := by simpa using hu0
    by_cases hu1 : u = 1
    · have hb1 : (u == 1) = true := by simpa using hu1
      clear hu1 hu0
      have T1 := texts_new v0 samples 1 20 (by decide)
      have R1 := new_rd r0 (.cells (samples.map Value.string).toArray 9)
      have G1 := grown_allocD g0 (.cells (samples.map Value.string).toArray 9)
      have ltl := r0.lt
      clear r0 g0
      go_wp2_with fail
      refine (ofX g _ v0.heap.size 5 1 20 _ R1 (by omega) T1 ltl (by omega) (by omega)).mono ?_
      rintro e v1 ⟨t1, q1, lt1, ut1, rfl, r1, hq1, hg1⟩
      have g1 := grown_trans G1 hg1
      clear hg1 G1 R1 T1
      go_wp2_with fail
      refine (pickX _ _ 20 _ r1 (by omega) (by omega) (by omega)).mono ?_
      rintro e wz ⟨z, z0, z1, rfl, hrz, hgz⟩
      have gz := grown_trans g1 hgz
      clear hgz g1 r1
      by_cases hz : z = 0
      · have hzb : (z == 0) = true := by simpa using hz
        clear hz
        go_wp2_with fail
        refine (pickX _ _ (t1.size : Int) _ hrz (by omega) (by omega) (by omega)).mono ?_
        rintro e wy ⟨y, y0, y1, rfl, hry, hgy⟩
        obtain ⟨n, rfl⟩ := Int.eq_ofNat_of_zero_le y0
        have hn : n + 1 ≤ t1.size := by omega
        have gy := grown_trans gz hgy
        clear hgy gz hrz
        have hn0 : (0 : Int) ≤ (n : Int) := by omega
        have hn1 : (n : Int) ≤ (t1.size : Int) := by omega
        have hn2 : (0 : Int) ≤ (n : Int) + 1 := by omega
        have hn3 : (n : Int) + 1 ≤ (t1.size : Int) := by omega
        have hn4 : IntKind.i64.wrap ((n : Int) + 1) = (n : Int) + 1 := IntWalk.i64_in _ (by omega)
        have hn5 : n ≤ t1.size := by omega
        have K5 : KX w g p wy := ⟨gy, _, by omega, hry⟩
        have hqq : q1 + 1 + 1 ≤ p + 28 := by omega
        have hqb : q1 + 1 + 1 ≤ 900000 := by omega
        have hlty := hry.lt
        have hry' : RdX (wy.alloc (.cells (marksX.map Value.string).toArray 9)).drew g (q1 + 1 + 1) := hry.below (((Below.refl _ _).alloc (Nat.le_refl _) _).drew)
        have hby : Texts (wy.alloc (.cells (marksX.map Value.string).toArray 9)).drew wy.heap.size 6 0 1 := texts_new wy marksX 0 1 (by decide)
        have hbz : t1.size ≤ 40 := by omega
        have h16 : 1 ≤ 6 := by decide
        have h61 : 6 ≤ 1000 := by decide
        clear hry gy
        go_wp2
        go_region_held3 (fun w' => KX w g p w')
          (first | assumption | exact K5.drew | exact (K5.alloc _).drew | (apply kcK g6 hr6 f0; assumption) | fail)
          (first
            | (go_at_call 54; refine (ofX g (q1 + 1 + 1) wy.heap.size 6 0 1 _ hry' hqb hby hlty h16 h61).mono ?_; rintro e w6 ⟨xs, q6, lo6, hx1, rfl, hr6, hq6, g6⟩; have f0 := cat0 hq6 hqq; have f1 := catA hn hbz hx1; have f2 := catB hn hbz hx1)
            | fail)
        all_goals go_wp2
        all_goals go_ret
        all_goals exact DrawnS.ofK (by assumption) (by simp [ByteArray.size_append, ByteArray.size_extract]; omega)
      · have hzb : (z == 0) = false := by simpa using hz
        have D := Lib.hid (show DrawnS w g p 30 0 60 (.returned (.string t1)) wz from ⟨_, _, by omega, by omega, rfl, hrz, by omega, gz⟩)
        clear hz hrz gz
        go_wp2_with fail
        go_ret
        exact D.out
    · have hb1 : (u == 1) = false := by simpa using hu1
      by_cases hu23 : u = 2 ∨ u = 3
      · rcases hu23 with hu2 | hu3
        · have hb2 : (u == 2) = true := by simpa using hu2
          clear hu2 hu1 hu0
          go_wp2_with fail
          refine (l91Leaf_any g _ _ r0 (by omega)).mono ?_
          rintro e v1 ⟨t1, q1, lt1, ut1, rfl, r1, hq1, hg1⟩
          have g1 := grown_trans g0 hg1
          clear hg1 g0 r0
          go_wp2_with fail
          refine (l91Leaf_any g _ _ r1 (by omega)).mono ?_
          rintro e v2 ⟨t2, q2, lt2, ut2, rfl, r2, hq2, hg2⟩
          have g2 := grown_trans g1 hg2
          clear hg2 g1 r1
          go_wp2_with fail
          refine (l91Leaf_any g _ _ r2 (by omega)).mono ?_
          rintro e v3 ⟨t3, q3, lt3, ut3, rfl, r3, hq3, hg3⟩
          have g3 := grown_trans g2 hg3
          clear hg3 g2 r2
          have T4 := texts_new v3 [t1, t2, t3] 1 1 (by simp; omega)
          have R4 := new_rd r3 (.cells ([t1, t2, t3].map Value.string).toArray 9)
          have G4 := grown_allocD g3 (.cells ([t1, t2, t3].map Value.string).toArray 9)
          have ltl4 := r3.lt
          clear r3 g3
          go_wp2_with fail
          refine (l91List_any g _ v3.heap.size 3 1 1 _ R4 (by omega) T4 ltl4 (by omega) (by omega) (by omega)).mono ?_
          rintro e v4 ⟨t4, q4, lt4, ut4, rfl, r4, hq4, hg4⟩
          have g4 := grown_trans G4 hg4
          clear hg4 G4 R4 T4
          go_wp2_with fail
          refine (pickX _ _ 20 _ r4 (by omega) (by omega) (by omega)).mono ?_
          rintro e wz ⟨z, z0, z1, rfl, hrz, hgz⟩
          have gz := grown_trans g4 hgz
          clear hgz g4 r4
          by_cases hz : z = 0
          · have hzb : (z == 0) = true := by simpa using hz
            clear hz
            go_wp2_with fail
            refine (pickX _ _ (t4.size : Int) _ hrz (by omega) (by omega) (by omega)).mono ?_
            rintro e wy ⟨y, y0, y1, rfl, hry, hgy⟩
            obtain ⟨n, rfl⟩ := Int.eq_ofNat_of_zero_le y0
            have hn : n + 1 ≤ t4.size := by omega
            have gy := grown_trans gz hgy
            clear hgy gz hrz
            have hn0 : (0 : Int) ≤ (n : Int) := by omega
            have hn1 : (n : Int) ≤ (t4.size : Int) := by omega
            have hn2 : (0 : Int) ≤ (n : Int) + 1 := by omega
            have hn3 : (n : Int) + 1 ≤ (t4.size : Int) := by omega
            have hn4 : IntKind.i64.wrap ((n : Int) + 1) = (n : Int) + 1 := IntWalk.i64_in _ (by omega)
            have hn5 : n ≤ t4.size := by omega
            have K5 : KX w g p wy := ⟨gy, _, by omega, hry⟩
            have hqq : q4 + 1 + 1 ≤ p + 28 := by omega
            have hqb : q4 + 1 + 1 ≤ 900000 := by omega
            have hlty := hry.lt
            have hry' : RdX (wy.alloc (.cells (marksX.map Value.string).toArray 9)).drew g (q4 + 1 + 1) := hry.below (((Below.refl _ _).alloc (Nat.le_refl _) _).drew)
            have hby : Texts (wy.alloc (.cells (marksX.map Value.string).toArray 9)).drew wy.heap.size 6 0 1 := texts_new wy marksX 0 1 (by decide)
            have hbz : t4.size ≤ 40 := by omega
            have h16 : 1 ≤ 6 := by decide
            have h61 : 6 ≤ 1000 := by decide
            clear hry gy
            go_wp2
            go_region_held3 (fun w' => KX w g p w')
              (first | assumption | exact K5.drew | exact (K5.alloc _).drew | (apply kcK g6 hr6 f0; assumption) | fail)
              (first
                | (go_at_call 54; refine (ofX g (q4 + 1 + 1) wy.heap.size 6 0 1 _ hry' hqb hby hlty h16 h61).mono ?_; rintro e w6 ⟨xs, q6, lo6, hx1, rfl, hr6, hq6, g6⟩; have f0 := cat0 hq6 hqq; have f1 := catA hn hbz hx1; have f2 := catB hn hbz hx1)
                | fail)
            all_goals go_wp2
            all_goals go_ret
            all_goals exact DrawnS.ofK (by assumption) (by simp [ByteArray.size_append, ByteArray.size_extract]; omega)
          · have hzb : (z == 0) = false := by simpa using hz
            have D := Lib.hid (show DrawnS w g p 30 0 60 (.returned (.string t4)) wz from ⟨_, _, by omega, by omega, rfl, hrz, by omega, gz⟩)
            clear hz hrz gz
            go_wp2_with fail
            go_ret
            exact D.out
        · have hb2 : (u == 2) = false := by simp; omega
          have hb3 : (u == 3) = true := by simpa using hu3
          clear hu3 hu1 hu0
          go_wp2_with fail
          refine (l91Leaf_any g _ _ r0 (by omega)).mono ?_
          rintro e v1 ⟨t1, q1, lt1, ut1, rfl, r1, hq1, hg1⟩
          have g1 := grown_trans g0 hg1
          clear hg1 g0 r0
          go_wp2_with fail
          refine (l91Leaf_any g _ _ r1 (by omega)).mono ?_
          rintro e v2 ⟨t2, q2, lt2, ut2, rfl, r2, hq2, hg2⟩
          have g2 := grown_trans g1 hg2
          clear hg2 g1 r1
          go_wp2_with fail
          refine (l91Leaf_any g _ _ r2 (by omega)).mono ?_
          rintro e v3 ⟨t3, q3, lt3, ut3, rfl, r3, hq3, hg3⟩
          have g3 := grown_trans g2 hg3
          clear hg3 g2 r2
          have T4 := texts_new v3 [t1, t2, t3] 1 1 (by simp; omega)
          have R4 := new_rd r3 (.cells ([t1, t2, t3].map Value.string).toArray 9)
          have G4 := grown_allocD g3 (.cells ([t1, t2, t3].map Value.string).toArray 9)
          have ltl4 := r3.lt
          clear r3 g3
          go_wp2_with fail
          refine (l91List_any g _ v3.heap.size 3 1 1 _ R4 (by omega) T4 ltl4 (by omega) (by omega) (by omega)).mono ?_
          rintro e v4 ⟨t4, q4, lt4, ut4, rfl, r4, hq4, hg4⟩
          have g4 := grown_trans G4 hg4
          clear hg4 G4 R4 T4
          go_wp2_with fail
          refine (pickX _ _ 20 _ r4 (by omega) (by omega) (by omega)).mono ?_
          rintro e wz ⟨z, z0, z1, rfl, hrz, hgz⟩
          have gz := grown_trans g4 hgz
          clear hgz g4 r4
          by_cases hz : z = 0
          · have hzb : (z == 0) = true := by simpa using hz
            clear hz
            go_wp2_with fail
            refine (pickX _ _ (t4.size : Int) _ hrz (by omega) (by omega) (by omega)).mono ?_
            rintro e wy ⟨y, y0, y1, rfl, hry, hgy⟩
            obtain ⟨n, rfl⟩ := Int.eq_ofNat_of_zero_le y0
            have hn : n + 1 ≤ t4.size := by omega
            have gy := grown_trans gz hgy
            clear hgy gz hrz
            have hn0 : (0 : Int) ≤ (n : Int) := by omega
            have hn1 : (n : Int) ≤ (t4.size : Int) := by omega
            have hn2 : (0 : Int) ≤ (n : Int) + 1 := by omega
            have hn3 : (n : Int) + 1 ≤ (t4.size : Int) := by omega
            have hn4 : IntKind.i64.wrap ((n : Int) + 1) = (n : Int) + 1 := IntWalk.i64_in _ (by omega)
            have hn5 : n ≤ t4.size := by omega
            have K5 : KX w g p wy := ⟨gy, _, by omega, hry⟩
            have hqq : q4 + 1 + 1 ≤ p + 28 := by omega
            have hqb : q4 + 1 + 1 ≤ 900000 := by omega
            have hlty := hry.lt
            have hry' : RdX (wy.alloc (.cells (marksX.map Value.string).toArray 9)).drew g (q4 + 1 + 1) := hry.below (((Below.refl _ _).alloc (Nat.le_refl _) _).drew)
            have hby : Texts (wy.alloc (.cells (marksX.map Value.string).toArray 9)).drew wy.heap.size 6 0 1 := texts_new wy marksX 0 1 (by decide)
            have hbz : t4.size ≤ 40 := by omega
            have h16 : 1 ≤ 6 := by decide
            have h61 : 6 ≤ 1000 := by decide
            clear hry gy
            go_wp2
            go_region_held3 (fun w' => KX w g p w')
              (first | assumption | exact K5.drew | exact (K5.alloc _).drew | (apply kcK g6 hr6 f0; assumption) | fail)
              (first
                | (go_at_call 54; refine (ofX g (q4 + 1 + 1) wy.heap.size 6 0 1 _ hry' hqb hby hlty h16 h61).mono ?_; rintro e w6 ⟨xs, q6, lo6, hx1, rfl, hr6, hq6, g6⟩; have f0 := cat0 hq6 hqq; have f1 := catA hn hbz hx1; have f2 := catB hn hbz hx1)
                | fail)
            all_goals go_wp2
            all_goals go_ret
            all_goals exact DrawnS.ofK (by assumption) (by simp [ByteArray.size_append, ByteArray.size_extract]; omega)
          · have hzb : (z == 0) = false := by simpa using hz
            have D := Lib.hid (show DrawnS w g p 30 0 60 (.returned (.string t4)) wz from ⟨_, _, by omega, by omega, rfl, hrz, by omega, gz⟩)
            clear hz hrz gz
            go_wp2_with fail
            go_ret
            exact D.out
      · have hb2 : (u == 2) = false := by simp; omega
        have hb3 : (u == 3) = false := by simp; omega
        clear hu23 hu1 hu0
        go_wp2_with fail
        refine (l91Leaf_any g _ _ r0 (by omega)).mono ?_
        rintro e v1 ⟨t1, q1, lt1, ut1, rfl, r1, hq1, hg1⟩
        have g1 := grown_trans g0 hg1
        clear hg1 g0 r0
        go_wp2_with fail
        refine (l91Leaf_any g _ _ r1 (by omega)).mono ?_
        rintro e v2 ⟨t2, q2, lt2, ut2, rfl, r2, hq2, hg2⟩
        have g2 := grown_trans g1 hg2
        clear hg2 g1 r1
        have T3 := texts_new v2 [t1, t2] 1 1 (by simp; omega)
        have R3 := new_rd r2 (.cells ([t1, t2].map Value.string).toArray 9)
        have G3 := grown_allocD g2 (.cells ([t1, t2].map Value.string).toArray 9)
        have ltl3 := r2.lt
        clear r2 g2
        go_wp2_with fail
        refine (l91List_any g _ v2.heap.size 2 1 1 _ R3 (by omega) T3 ltl3 (by omega) (by omega) (by omega)).mono ?_
        rintro e v3 ⟨t3, q3, lt3, ut3, rfl, r3, hq3, hg3⟩
        have g3 := grown_trans G3 hg3
        clear hg3 G3 R3 T3
        go_wp2_with fail
        refine (l91Leaf_any g _ _ r3 (by omega)).mono ?_
        rintro e v4 ⟨t4, q4, lt4, ut4, rfl, r4, hq4, hg4⟩
        have g4 := grown_trans g3 hg4
        clear hg4 g3 r3
        go_wp2_with fail
        refine (l91Leaf_any g _ _ r4 (by omega)).mono ?_
        rintro e v5 ⟨t5, q5, lt5, ut5, rfl, r5, hq5, hg5⟩
        have g5 := grown_trans g4 hg5
        clear hg5 g4 r4
        go_wp2_with fail
        refine (l91Leaf_any g _ _ r5 (by omega)).mono ?_
        rintro e v6 ⟨t6, q6, lt6, ut6, rfl, r6, hq6, hg6⟩
        have g6 := grown_trans g5 hg6
        clear hg6 g5 r5
        have T7 := texts_new v6 [t4, t5, t6] 1 1 (by simp; omega)
        have R7 := new_rd r6 (.cells ([t4, t5, t6].map Value.string).toArray 9)
        have G7 := grown_allocD g6 (.cells ([t4, t5, t6].map Value.string).toArray 9)
        have ltl7 := r6.lt
        clear r6 g6
        go_wp2_with fail
        refine (l91List_any g _ v6.heap.size 3 1 1 _ R7 (by omega) T7 ltl7 (by omega) (by omega) (by omega)).mono ?_
        rintro e v7 ⟨t7, q7, lt7, ut7, rfl, r7, hq7, hg7⟩
        have g7 := grown_trans G7 hg7
        clear hg7 G7 R7 T7
        have T8 := texts_new v7 [t3, t7] 1 9 (by simp; omega)
        have R8 := new_rd r7 (.cells ([t3, t7].map Value.string).toArray 9)
        have G8 := grown_allocD g7 (.cells ([t3, t7].map Value.string).toArray 9)
        have ltl8 := r7.lt
        clear r7 g7
        go_wp2_with fail
        refine (l91List_any g _ v7.heap.size 2 1 9 _ R8 (by omega) T8 ltl8 (by omega) (by omega) (by omega)).mono ?_
        rintro e v8 ⟨t8, q8, lt8, ut8, rfl, r8, hq8, hg8⟩
        have g8 := grown_trans G8 hg8
        clear hg8 G8 R8 T8
        go_wp2_with fail
        refine (pickX _ _ 20 _ r8 (by omega) (by omega) (by omega)).mono ?_
        rintro e wz ⟨z, z0, z1, rfl, hrz, hgz⟩
        have gz := grown_trans g8 hgz
        clear hgz g8 r8
        by_cases hz : z = 0
        · have hzb : (z == 0) = true := by simpa using hz
          clear hz
          go_wp2_with fail
          refine (pickX _ _ (t8.size : Int) _ hrz (by omega) (by omega) (by omega)).mono ?_
          rintro e wy ⟨y, y0, y1, rfl, hry, hgy⟩
          obtain ⟨n, rfl⟩ := Int.eq_ofNat_of_zero_le y0
          have hn : n + 1 ≤ t8.size := by omega
          have gy := grown_trans gz hgy
          clear hgy gz hrz
          have hn0 : (0 : Int) ≤ (n : Int) := by omega
          have hn1 : (n : Int) ≤ (t8.size : Int) := by omega
          have hn2 : (0 : Int) ≤ (n : Int) + 1 := by omega
          have hn3 : (n : Int) + 1 ≤ (t8.size : Int) := by omega
          have hn4 : IntKind.i64.wrap ((n : Int) + 1) = (n : Int) + 1 := IntWalk.i64_in _ (by omega)
          have hn5 : n ≤ t8.size := by omega
          have K5 : KX w g p wy := ⟨gy, _, by omega, hry⟩
          have hqq : q8 + 1 + 1 ≤ p + 28 := by omega
          have hqb : q8 + 1 + 1 ≤ 900000 := by omega
          have hlty := hry.lt
          have hry' : RdX (wy.alloc (.cells (marksX.map Value.string).toArray 9)).drew g (q8 + 1 + 1) := hry.below (((Below.refl _ _).alloc (Nat.le_refl _) _).drew)
          have hby : Texts (wy.alloc (.cells (marksX.map Value.string).toArray 9)).drew wy.heap.size 6 0 1 := texts_new wy marksX 0 1 (by decide)
          have hbz : t8.size ≤ 40 := by omega
          have h16 : 1 ≤ 6 := by decide
          have h61 : 6 ≤ 1000 := by decide
          clear hry gy
          go_wp2
          go_region_held3 (fun w' => KX w g p w')
            (first | assumption | exact K5.drew | exact (K5.alloc _).drew | (apply kcK g6 hr6 f0; assumption) | fail)
            (first
              | (go_at_call 54; refine (ofX g (q8 + 1 + 1) wy.heap.size 6 0 1 _ hry' hqb hby hlty h16 h61).mono ?_; rintro e w6 ⟨xs, q6, lo6, hx1, rfl, hr6, hq6, g6⟩; have f0 := cat0 hq6 hqq; have f1 := catA hn hbz hx1; have f2 := catB hn hbz hx1)
              | fail)
          all_goals go_wp2
          all_goals go_ret
          all_goals exact DrawnS.ofK (by assumption) (by simp [ByteArray.size_append, ByteArray.size_extract]; omega)
        · have hzb : (z == 0) = false := by simpa using hz
          have D := Lib.hid (show DrawnS w g p 30 0 60 (.returned (.string t8)) wz from ⟨_, _, by omega, by omega, rfl, hrz, by omega, gz⟩)
          clear hz hrz gz
          go_wp2_with fail
          go_ret
          exact D.out
end Go.Proofs.Ytlmlplbpebfkbaa
