/- Critical members: the transversals of size one, and survival of one failure; no program. -/
import Derived.Test.YtngacjfoldgjpaaGreatDoorMetMg
namespace Go.Proofs.YtngacjfoldgjpaaGreatDoor

/-- The members of the sets with one member among the first k. -/
def sgl (T : List (List Int)) : Nat → List Int
  | 0 => []
  | k + 1 => if (T.getD k []).length = 1 then both union (sgl T k) (T.getD k []) else sgl T k
theorem sgl_yes {T : List (List Int)} {k : Nat} {l : List Int} (h : T[k]? = some l) (h1 : l.length = 1) : sgl T (k + 1) = both union (sgl T k) l := by
  simp [sgl, List.getD_eq_getElem?_getD, h, h1]
theorem sgl_no {T : List (List Int)} {k : Nat} {l : List Int} (h : T[k]? = some l) (h1 : l.length ≠ 1) : sgl T (k + 1) = sgl T k := by
  simp [sgl, List.getD_eq_getElem?_getD, h, h1]
theorem sgl_has {T : List (List Int)} (hT : allV T) (x : Int) : ∀ k, k ≤ T.length → vld (sgl T k) = true ∧ (has (sgl T k) x = true ↔ ∃ (j : Nat) (l : List Int), j < k ∧ T[j]? = some l ∧ l.length = 1 ∧ has l x = true)
  | 0, _ => ⟨rfl, by simp [sgl, has]⟩
  | k + 1, hk => by
    obtain ⟨h1, h2⟩ := sgl_has hT x k (by omega)
    have hx : T[k]? = some T[k] := List.getElem?_eq_getElem (by omega)
    have hv := hT T[k] (List.getElem_mem _)
    by_cases hl : T[k].length = 1
    · rw [sgl_yes hx hl, both_t h1 hv]
      refine ⟨vld_un _ _, ?_⟩
      rw [has_un' h1 hv, Bool.or_eq_true, h2]
      constructor
      · rintro (⟨j, l, a, b⟩ | h)
        · exact ⟨j, l, by omega, b⟩
        · exact ⟨k, _, by omega, hx, hl, h⟩
      · rintro ⟨j, l, a, b, c, e⟩
        rcases Nat.lt_or_ge j k with h | h
        · exact .inl ⟨j, l, h, b, c, e⟩
        · obtain rfl : j = k := by omega
          rw [hx] at b
          injection b with b
          exact .inr (b ▸ e)
    · rw [sgl_no hx hl]
      refine ⟨h1, h2.trans ⟨fun ⟨j, l, a, b⟩ => ⟨j, l, by omega, b⟩, fun ⟨j, l, a, b, c, e⟩ => ?_⟩⟩
      rcases Nat.lt_or_ge j k with h | h
      · exact ⟨j, l, h, b, c, e⟩
      · obtain rfl : j = k := by omega
        rw [hx] at b
        injection b with b
        exact absurd (b ▸ c) hl

/-- One member as a set. -/
theorem one_bit {q : Nat} (hq : q < 64) (h1 : (mem q).length = 1) {x : Int} (hx : has (mem q) x = true) : ∀ m, m < 64 → (q &&& m ≠ 0 ↔ has (mem m) x = true) := by
  have H : ∀ q : Fin 64, (mem q.val).length = 1 → ∀ y ∈ six, has (mem q.val) y = true → ∀ m : Fin 64, (q.val &&& m.val ≠ 0 ↔ has (mem m.val) y = true) := by decide +kernel
  intro m hm
  have h6 : x ∈ six := by
    rcases Classical.em (x ∈ six) with h | h
    · exact h
    · rw [has_out (vld_mem hq) h] at hx; cases hx
  exact H ⟨q, hq⟩ h1 x h6 hx ⟨m, hm⟩
theorem one_of_six {x : Int} (h : x ∈ six) : ∃ q, q < 64 ∧ (mem q).length = 1 ∧ has (mem q) x = true ∧ ∀ r, r < 64 → sub r q = true → r = 0 ∨ r = q := by
  have H : ∀ y ∈ six, ∃ q : Fin 64, (mem q.val).length = 1 ∧ has (mem q.val) y = true ∧ ∀ r : Fin 64, sub r.val q.val = true → r.val = 0 ∨ r.val = q.val := by decide +kernel
  obtain ⟨q, a, b, c⟩ := H x h
  exact ⟨q.val, q.isLt, a, b, fun r hr => c ⟨r, hr⟩⟩
theorem row_mem {F : List (List Int)} (hV : allV F) {l : List Int} (hl : l ∈ F) : msk l ∈ msks F ∧ mem (msk l) = l ∧ msk l < 64 := ⟨List.mem_map.2 ⟨l, hl, rfl⟩, mem_msk (hV l hl), msk_lt (hV l hl)⟩

theorem crtR_vld {F : List (List Int)} (h : transOk F = true) : vld (crtR F) = true := by
  have hT := h
  simp only [transOk, Bool.and_eq_true, decide_eq_true_eq] at h
  rw [crtR, if_pos hT]
  have : ∀ k, k ≤ F.length → vld (crt F k) = true := by
    intro k
    induction k with
    | zero =>
      intro _
      cases F with
      | nil => simp at h
      | cons a F => exact famOk_allV h.1 a (by simp)
    | succ k ih =>
      intro hk
      rw [crt_succ (List.getElem?_eq_getElem (by omega))]
      exact vld_in (ih (by omega)) _
  exact this _ (Nat.le_refl _)

/-- Critical members are the transversals of size one. -/
theorem crit_trans {F : List (List Int)} (h : transOk F = true) : sgl (outM (transM F) true) (outM (transM F) true).length = crtR F := by
  obtain ⟨hf, hne⟩ := trans_parts h
  have hV := famOk_allV hf
  have hK := famOk_sys hf
  have h2 := trans_ok2 h
  simp only [transOk, Bool.and_eq_true, decide_eq_true_eq] at h2
  have hVT := famOk_allV h2.1
  refine ext_has (sgl_has hVT 0 _ (Nat.le_refl _)).1 (crtR_vld h) fun x hx => ?_
  rw [Bool.eq_iff_iff, (sgl_has hVT x _ (Nat.le_refl _)).2, crt_all h]
  have row : ∀ {l : List Int}, l ∈ outM (transM F) true ↔ ∃ q, q ∈ mins (trs (msks F)) ∧ mem q = l := fun {l} => by rw [trans_out]; exact List.mem_map
  constructor
  · rintro ⟨j, l, _, hl, h1, hxl⟩ r hr
    obtain ⟨q, hq, rfl⟩ := row.1 (List.mem_of_getElem? hl)
    have hq6 := mins_lt _ q hq
    obtain ⟨a, b, c⟩ := row_mem hV hr
    have hh := hits_iff.1 (mem_trs.1 ((mem_mins (trs_msk _)).1 hq).1).2 _ a
    rw [Nat.and_comm] at hh
    have := (one_bit hq6 h1 hxl (msk r) c).1 hh
    rwa [b] at this
  · intro hall
    obtain ⟨q, hq6, h1, hxq, hmin⟩ := one_of_six hx
    have hit : q ∈ trs (msks F) := mem_trs.2 ⟨hq6, hits_iff.2 fun m hm e => by
      obtain ⟨r, hr, rfl⟩ := List.mem_map.1 hm
      obtain ⟨a, b, c⟩ := row_mem hV hr
      have := (one_bit hq6 h1 hxq (msk r) c).2 (by rw [b]; exact hall r hr)
      rw [Nat.and_comm] at this
      exact this e⟩
    have hqm : q ∈ mins (trs (msks F)) := (mem_mins (trs_msk _)).2 ⟨hit, fun r hr hs => by
      rcases hmin r (trs_msk _ r hr) hs with h0 | h0
      · exact absurd (h0 ▸ hr) (trs_zero hne)
      · exact h0⟩
    obtain ⟨j, hj⟩ := List.mem_iff_getElem?.1 (row.2 ⟨q, hqm, rfl⟩)
    exact ⟨j, mem q, (List.getElem?_eq_some_iff.1 hj).1, hj, h1, hxq⟩

/-- A member is critical if and only if no quorum is left when it alone has failed. -/
theorem crit_surv {F : List (List Int)} (h : transOk F = true) {x : Int} (hx : x ∈ six) : has (crtR F) x = !srvR F [x] := by
  obtain ⟨hf, hne⟩ := trans_parts h
  have hV := famOk_allV hf
  have hK := famOk_sys hf
  have hv : vld [x] = true := by
    have H : ∀ y ∈ six, vld [y] = true := by decide
    exact H x hx
  have h6 := msk_lt hv
  have h1 : (mem (msk [x])).length = 1 := by rw [mem_msk hv]; rfl
  have hb : has (mem (msk [x])) x = true := by rw [mem_msk hv]; simp [has]
  rw [srvR, hf, hv, Bool.true_and, Bool.true_and, ← hits_comp hK.1 h6, Bool.eq_iff_iff, crt_all h, hits_iff]
  constructor
  · intro hall m hm
    obtain ⟨r, hr, rfl⟩ := List.mem_map.1 hm
    obtain ⟨a, b, c⟩ := row_mem hV hr
    rw [Nat.and_comm]
    exact (one_bit h6 h1 hb (msk r) c).2 (by rw [b]; exact hall r hr)
  · intro hall r hr
    obtain ⟨a, b, c⟩ := row_mem hV hr
    have := hall _ a
    rw [Nat.and_comm] at this
    have := (one_bit h6 h1 hb (msk r) c).1 this
    rwa [b] at this
end Go.Proofs.YtngacjfoldgjpaaGreatDoor
