/- The draw of a family that may be no quorum system, and plain facts on families without a set, with a set twice, and with the set of all members. -/
import Derived.Test.YtngacjfoldgjpabDrawFg
import Derived.Test.YtngacjfoldgjpabGc
import Derived.Test.YtngacjfoldgjpabWLawsg
namespace Go.Proofs.Ytngacjfoldgjpab
open Go.RowKit

/-- What the draw hands back: rows of its own. -/
def DrewV2 (w : World) (e : Ending) (w' : World) : Prop :=
  ∃ (F : List (List Int)) (A : Option Addr) (c lo hi : Nat), F.length ≤ 66 ∧ Short F 7 ∧ e = .returned (.slice A F.length c) ∧ OSS w' lo hi A c F ∧ Below w.heap.size w w'

set_option maxRecDepth 100000 in
set_option maxHeartbeats 1600000 in
theorem drawFV_any (A : Option Addr) (c : Nat) (l : List Int) (w : World) (ha : BL w A l) (hc : l.length ≤ c) (hm : l.length ≤ maxLen) (hmc : c ≤ maxLen) :
    Calls Try.prog 4 #[.slice A l.length c] w (DrewV2 w) := by
  obtain ⟨i0, hi0, hz0, hz1, hz2⟩ := info_parts slice_info
  go_enter Try.func4, Try.ntmps4
  go_wp2_with fail
  refine (l6Open_any _ _ _ _ ha hc hm hmc).mono ?_
  rintro e w1 ⟨rfl, hr1, b1⟩
  have hlt := hr1.lt
  go_wp2_with fail
  refine (l91Family_any _ _ _ hr1 (by omega)).mono ?_
  rintro e w2 ⟨F, A2, c2, q2, hF, hS, rfl, o2, hr2, hq2, g2⟩
  clear hr1
  go_wp2_with fail
  refine (pickX _ _ 3 _ hr2 (by omega) (by omega) (by omega)).mono ?_
  rintro e w3 ⟨y, y0, y1, rfl, hr3, g3⟩
  have o3 := o2.far g3 hlt
  have gr3 := grown_trans g2 g3
  have hs23 := g3.size
  have hs12 := g2.size
  clear o2 hr2 g2 g3
  by_cases hy : y = 0
  · have hyb : (y == 0) = true := by simpa using hy
    clear hy
    go_wp2_with fail
    refine (l91Set_any _ _ _ hr3 (by omega)).mono ?_
    rintro e w4 ⟨b, A4, c4, q4, hb7, rfl, o4, hr4, hq4, g4⟩
    have o4F := o3.far g4 hlt
    have gr4 := grown_trans gr3 g4
    have hs34 := g4.size
    have B4 := rd_below b1 gr4
    obtain ⟨rs, hown, hh, hbk, hrw⟩ := o4F
    have HRW := Lib.hid hrw
    have HXA := Lib.hid (show RowAt w4 w3.heap.size w4.heap.size b (.slice A4 b.length c4) from ⟨_, _, rfl, Own.of_new o4⟩)
    clear hrw hbk o3 o4 hr3 hr4 gr3 gr4 g4
    go_wp2_with (at_builtin; refine wpList_append_own _ rfl (.tmp 12) (.tmp 15) 23 rfl w1.heap.size 26 i0 (.slice none 0 0) 1 24 Try.underlying23 hi0 hz0 hz1 hz2 rfl (by decide) _ _ _ rfl (hown.alloc _) ⟨w4.heap.size, 0, none⟩ 1 1 [.slice A4 b.length c4] rfl rfl (cell_one_new _ _ _) (slice_oneCell _ _ _) (by unfold maxLen; omega) (by omega) (by simp; omega) ?_)
    intro v7 w7 ho7 hg7 _
    obtain ⟨A7, c7, rfl, os7⟩ := oss_app HRW.out HXA.out (by omega) (by omega) hs34 hown ho7 hg7
    have B7 : Below w.heap.size w w7 := app_gen hown b1.size B4 hg7
    have D := Lib.hid (show DrewV2 w (.returned (.slice A7 (F ++ [b]).length c7)) w7 from ⟨_, A7, c7, _, _, by rw [List.length_append]; show List.length _ + 1 ≤ 66; omega, short_snoc hS hb7, rfl, os7, B7⟩)
    clear os7 ho7 hg7 hown HRW HXA B4 B7
    go_wp2
    go_ret
    exact D.out
  · have hyb : (y == 0) = false := by simpa using hy
    have D := Lib.hid (show DrewV2 w (.returned (.slice A2 F.length c2)) w3 from ⟨F, A2, c2, _, _, by omega, hS, rfl, o3, rd_below b1 gr3⟩)
    clear hy o3 hr3 gr3
    go_wp2
    go_ret
    exact D.out

theorem sys_sub {K L : List Nat} (h : Sys K) (hs : L.Sublist K) : Sys L :=
  ⟨fun q hq => h.1 q (hs.subset hq), h.2.1.sublist hs, fun q hq r hr => h.2.2.1 q (hs.subset hq) r (hs.subset hr), fun q hq => h.2.2.2 q (hs.subset hq)⟩
theorem fam_sub {F G : List (List Int)} (h : famOk F = true) (hs : G.Sublist F) : famOk G = true := by
  have hV : allV G := fun l hl => famOk_allV h l (hs.subset hl)
  rw [← mems_msks hV]
  exact sys_famOk (sys_sub (famOk_sys h) (hs.map msk))
theorem fam_less {F : List (List Int)} (h : famOk F = true) (k : Nat) : famOk (F.take k ++ F.drop (k + 1)) = true := by
  rw [← List.eraseIdx_eq_take_drop_succ]
  exact fam_sub h (List.eraseIdx_sublist _ _)
theorem fam_dup {F : List (List Int)} {k : Nat} {l : List Int} (hx : F[k]? = some l) : famOk (F ++ [l]) = false := by
  rw [Bool.eq_false_iff]
  intro h
  have hs := (famOk_sys h).2.1
  rw [msks, List.map_append, List.pairwise_append] at hs
  have := hs.2.2 (msk l) (List.mem_map.2 ⟨l, List.mem_of_getElem? hx, rfl⟩) (msk l) (by simp)
  omega
theorem fam_full {F : List (List Int)} (h0 : 0 < F.length) : famOk (F ++ [mem 63]) = false := by
  rw [Bool.eq_false_iff]
  intro h
  have hS := famOk_sys h
  have hs := hS.2.1
  rw [msks, List.map_append, List.pairwise_append] at hs
  have e : msk (mem 63) = 63 := msk_mem (by omega)
  have hq : msk F[0] ∈ F.map msk := List.mem_map.2 ⟨_, List.getElem_mem h0, rfl⟩
  have h1 := hs.2.2 _ hq 63 (by simp [e])
  have h6 : msk F[0] < 64 := hS.1 _ (by rw [msks, List.map_append]; exact List.mem_append_left _ hq)
  have h2 := hS.2.2.1 (msk F[0]) (by rw [msks, List.map_append]; exact List.mem_append_left _ hq) 63 (by rw [msks, List.map_append]; exact List.mem_append_right _ (by simp [e])) (by
    have H : ∀ m : Fin 64, sub m.val 63 = true := by decide +kernel
    exact H ⟨_, h6⟩)
  omega
end Go.Proofs.Ytngacjfoldgjpab
