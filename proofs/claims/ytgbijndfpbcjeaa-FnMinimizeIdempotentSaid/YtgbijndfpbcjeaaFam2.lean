/- Quorum systems as lists of masks, no program: antichains have at most twenty sets, transversals of transversals, minimal sets of minimal sets. -/
import Derived.Test.YtgbijndfpbcjeaaFam
namespace Go.Proofs.Ytgbijndfpbcjeaa

/-- Twenty chains that hold all 64 sets. -/
def chn (m : Nat) : Nat := ([0, 0, 1, 0, 2, 2, 1, 0, 3, 3, 4, 3, 5, 2, 1, 0, 6, 6, 7, 6, 8, 8, 7, 6, 9, 9, 4, 3, 5, 2, 1, 0, 10, 10, 11, 10, 12, 12, 11, 10, 13, 13, 14, 13, 15, 12, 11, 10, 16, 16, 17, 16, 18, 8, 7, 6, 19, 9, 4, 3, 5, 2, 1, 0] : List Nat).getD m 0
theorem chn_lt {m : Nat} (h : m < 64) : chn m < 20 := by
  have H : ∀ m : Fin 64, chn m.val < 20 := by decide +kernel
  exact H ⟨m, h⟩
theorem chn_sub {a b : Nat} (ha : a < 64) (hb : b < 64) (h : chn a = chn b) : sub a b = true ∨ sub b a = true := by
  have H : ∀ a b : Fin 64, chn a.val = chn b.val → sub a.val b.val = true ∨ sub b.val a.val = true := by decide +kernel
  exact H ⟨a, ha⟩ ⟨b, hb⟩ h
/-- No set of K is within another. -/
def Anti (K : List Nat) : Prop := ∀ q ∈ K, ∀ r ∈ K, sub q r = true → q = r
theorem nodup_len : ∀ (n : Nat) (l : List Nat), l.Nodup → (∀ x ∈ l, x < n) → l.length ≤ n := by
  intro n
  induction n with
  | zero =>
    intro l _ h
    cases l with
    | nil => simp
    | cons x l => exact absurd (h x (by simp)) (by omega)
  | succ n ih =>
    intro l hn h
    have h1 : (l.filter (· != n)).length ≤ n := by
      refine ih _ (hn.filter _) fun x hx => ?_
      obtain ⟨h2, h3⟩ := List.mem_filter.1 hx
      have := h x h2
      simp at h3
      omega
    have h2 : l.length ≤ (l.filter (· != n)).length + 1 := by
      clear ih h h1
      induction l with
      | nil => simp
      | cons x l ih =>
        rw [List.nodup_cons] at hn
        by_cases hx : x = n
        · subst hx
          have : l.filter (· != x) = l := List.filter_eq_self.2 fun y hy => by
            simp
            rintro rfl
            exact hn.1 hy
          simp [this]
        · have := ih hn.2
          simp [hx]
          simpa using this
    omega
theorem anti_len {K : List Nat} (hm : Msk K) (hs : K.Pairwise (· < ·)) (ha : Anti K) : K.length ≤ 20 := by
  have h1 : (K.map chn).Nodup := by
    rw [List.Nodup, List.pairwise_map]
    refine (List.Pairwise.and_mem.1 hs).imp ?_
    rintro a b ⟨h1, h2, h3⟩ e
    rcases chn_sub (hm a h1) (hm b h2) e with h | h
    · have := ha a h1 b h2 h; omega
    · have := ha b h2 a h1 h; omega
  have := nodup_len 20 (K.map chn) h1 fun x hx => by
    obtain ⟨a, h2, rfl⟩ := List.mem_map.1 hx
    exact chn_lt (hm a h2)
  simpa using this
theorem mins_anti {S : List Nat} (hS : Msk S) : Anti (mins S) := by
  intro q hq r hr h
  exact ((mem_mins hS).1 hr).2 q ((mem_mins hS).1 hq).1 h
/-- Below every set of S lies a minimal one. -/
theorem mins_below {S : List Nat} (hS : Msk S) : ∀ (n m : Nat), m ≤ n → m ∈ S → ∃ k ∈ mins S, sub k m = true := by
  intro n
  induction n with
  | zero =>
    intro m hm h
    refine ⟨m, (mem_mins hS).2 ⟨h, fun q hq hs => ?_⟩, sub_refl (hS m h)⟩
    have := sub_le (hS q hq) (hS m h) hs
    omega
  | succ n ih =>
    intro m hm h
    by_cases hmin : ∀ q ∈ S, sub q m = true → q = m
    · exact ⟨m, (mem_mins hS).2 ⟨h, hmin⟩, sub_refl (hS m h)⟩
    · simp only [Classical.not_forall] at hmin
      obtain ⟨q, hq, hs, hne⟩ := hmin
      have := sub_le (hS q hq) (hS m h) hs
      obtain ⟨k, hk, hks⟩ := ih q (by omega) hq
      exact ⟨k, hk, sub_trans (mins_lt S k hk) (hS q hq) (hS m h) hks hs⟩
theorem mins_hasQ {S : List Nat} (hS : Msk S) {m : Nat} (hm : m < 64) : hasQ (mins S) m = hasQ S m := by
  rw [Bool.eq_iff_iff, mem_hasQ, mem_hasQ]
  constructor
  · rintro ⟨q, hq, h⟩
    exact ⟨q, ((mem_mins hS).1 hq).1, h⟩
  · rintro ⟨q, hq, h⟩
    obtain ⟨k, hk, h2⟩ := mins_below hS q q (Nat.le_refl _) hq
    exact ⟨k, hk, sub_trans (mins_lt S k hk) (hS q hq) hm h2 h⟩
/-- What matters of a collection is which sets contain one of it. -/
theorem mins_congr {S T : List Nat} (hS : Msk S) (hT : Msk T) (h : ∀ m, m < 64 → hasQ S m = hasQ T m) : mins S = mins T := by
  refine List.filter_congr fun m hm => ?_
  rw [List.mem_range] at hm
  rw [← minS_eq hS hm, ← minS_eq hT hm, minS, minS, h m hm]
  congr 1
  rw [Bool.eq_iff_iff, List.all_eq_true, List.all_eq_true]
  have key : ∀ x, less m x < 64 := fun x => Nat.lt_of_le_of_lt Nat.and_le_left hm
  constructor
  · intro h2 x hx; rw [← h _ (key x)]; exact h2 x hx
  · intro h2 x hx; rw [h _ (key x)]; exact h2 x hx
theorem mins_same {S T : List Nat} (h : ∀ m, m ∈ S ↔ m ∈ T) : mins S = mins T := by
  refine List.filter_congr fun m _ => ?_
  rw [Bool.eq_iff_iff, minB_iff, minB_iff, h]
  exact ⟨fun ⟨a, b⟩ => ⟨a, fun q hq => b q ((h q).2 hq)⟩, fun ⟨a, b⟩ => ⟨a, fun q hq => b q ((h q).1 hq)⟩⟩
/-- An ascending antichain is its own minimal sets. -/
theorem mins_self {K : List Nat} (hm : Msk K) (hs : K.Pairwise (· < ·)) (ha : Anti K) : mins K = K := by
  refine asc_ext (mins_sorted K) hs fun m => ?_
  rw [mem_mins hm]
  exact ⟨fun h => h.1, fun h => ⟨h, fun q hq hq2 => ha q hq m h hq2⟩⟩
theorem mins_mins {S : List Nat} (hS : Msk S) : mins (mins S) = mins S := mins_self (mins_lt S) (mins_sorted S) (mins_anti hS)

theorem comp_and {a b : Nat} (ha : a < 64) (hb : b < 64) : (a &&& andNot 63 b = 0) ↔ sub a b = true := by
  have H : ∀ a b : Fin 64, (a.val &&& andNot 63 b.val = 0) ↔ sub a.val b.val = true := by decide +kernel
  exact H ⟨a, ha⟩ ⟨b, hb⟩
theorem comp_sub {a b : Nat} (ha : a < 64) (hb : b < 64) : sub a (andNot 63 b) = true ↔ a &&& b = 0 := by
  have H : ∀ a b : Fin 64, (sub a.val (andNot 63 b.val) = true ↔ a.val &&& b.val = 0) := by decide +kernel
  exact H ⟨a, ha⟩ ⟨b, hb⟩
theorem comp_lt (b : Nat) : andNot 63 b < 64 := Nat.lt_of_le_of_lt Nat.and_le_left (by omega)
theorem and_sub {a q s : Nat} (hq : q < 64) (hs : s < 64) (h : sub q s = true) (h0 : a &&& s = 0) : a &&& q = 0 := by
  rw [sub_and hq hs] at h
  rw [← h, Nat.and_comm q s, ← Nat.and_assoc, h0, Nat.zero_and]
theorem hits_iff {K : List Nat} {s : Nat} : hitsQ K s = true ↔ ∀ q ∈ K, q &&& s ≠ 0 := by simp [hitsQ]
/-- The sets that meet every set of K. -/
def trs (K : List Nat) : List Nat := (List.range 64).filter (hitsQ K)
theorem trs_msk (K : List Nat) : Msk (trs K) := fun _ hq => List.mem_range.1 (List.mem_filter.1 hq).1
theorem mem_trs {K : List Nat} {s : Nat} : s ∈ trs K ↔ s < 64 ∧ hitsQ K s = true := by simp [trs]
theorem trs_trs {K : List Nat} (hK : Msk K) {s : Nat} (hs : s < 64) : hitsQ (mins (trs K)) s = hasQ K s := by
  rw [Bool.eq_iff_iff]
  constructor
  · intro h
    rw [hits_iff] at h
    cases hh : hasQ K s
    · exfalso
      have hno : ∀ q ∈ K, sub q s = false := by simpa [hasQ] using hh
      have hc : andNot 63 s ∈ trs K := mem_trs.2 ⟨comp_lt s, hits_iff.2 fun _ hq h0 => by
        rw [comp_and (hK _ hq) hs, hno _ hq] at h0; cases h0⟩
      obtain ⟨k, hk, hks⟩ := mins_below (trs_msk K) _ _ (Nat.le_refl _) hc
      exact h k hk ((comp_sub (mins_lt _ k hk) hs).1 hks)
    · rfl
  · intro h
    obtain ⟨q, hq, hqs⟩ := mem_hasQ.1 h
    refine hits_iff.2 fun t ht h0 => ?_
    have h1 := and_sub (hK q hq) hs hqs h0
    have h2 := (mem_trs.1 ((mem_mins (trs_msk K)).1 ht).1).2
    rw [hits_iff] at h2
    exact h2 q hq (by rw [Nat.and_comm]; exact h1)
theorem hasQ_up {K : List Nat} (hK : Msk K) {a b : Nat} (ha : a < 64) (hb : b < 64) (h : sub a b = true) (h2 : hasQ K a = true) : hasQ K b = true := by
  obtain ⟨q, hq, h3⟩ := mem_hasQ.1 h2
  exact mem_hasQ.2 ⟨q, hq, sub_trans (hK q hq) ha hb h3 h⟩
theorem hasQ_filter {K : List Nat} (hK : Msk K) {m : Nat} (hm : m < 64) : hasQ ((List.range 64).filter (hasQ K)) m = hasQ K m := by
  rw [Bool.eq_iff_iff]
  constructor
  · intro h
    obtain ⟨q, hq, hs⟩ := mem_hasQ.1 h
    obtain ⟨h1, h2⟩ := List.mem_filter.1 hq
    exact hasQ_up hK (List.mem_range.1 h1) hm hs h2
  · intro h
    exact mem_hasQ.2 ⟨m, List.mem_filter.2 ⟨List.mem_range.2 hm, h⟩, sub_refl hm⟩
/-- The transversals of the transversals. -/
theorem trs_twice {K : List Nat} (hm : Msk K) (hs : K.Pairwise (· < ·)) (ha : Anti K) : mins (trs (mins (trs K))) = K := by
  have h1 : trs (mins (trs K)) = (List.range 64).filter (hasQ K) := List.filter_congr fun s hs => trs_trs hm (List.mem_range.1 hs)
  rw [h1, mins_congr (fun _ hq => List.mem_range.1 (List.mem_filter.1 hq).1) hm fun m hm2 => hasQ_filter hm hm2]
  exact mins_self hm hs ha

/-- A quorum system's masks. -/
def Sys (K : List Nat) : Prop := Msk K ∧ K.Pairwise (· < ·) ∧ Anti K ∧ ∀ q ∈ K, 0 < q
theorem fv_sys : ∀ (F : List (List Int)) (K : List Nat) (p : Nat), fv K p F = true → (K ++ msks F).Pairwise (fun a b => sub a b = false) ∨ ¬ K.Pairwise (fun a b => sub a b = false) := by
  intro F
  induction F with
  | nil =>
    intro K p _
    by_cases h : K.Pairwise (fun a b => sub a b = false)
    · left; simpa [msks] using h
    · exact .inr h
  | cons l F ih =>
    intro K p h
    simp only [fv, Bool.and_eq_true, Bool.not_eq_true'] at h
    obtain ⟨⟨⟨h1, h2⟩, h3⟩, h4⟩ := h
    by_cases hK : K.Pairwise (fun a b => sub a b = false)
    · have hK2 : (K ++ [msk l]).Pairwise (fun a b => sub a b = false) := by
        rw [List.pairwise_append]
        refine ⟨hK, by simp, fun a ha b hb => ?_⟩
        simp at hb
        subst hb
        have hno : ∀ q ∈ K, sub q (msk l) = false := by simpa [hasQ] using h3
        exact hno a ha
      rcases ih _ _ h4 with h5 | h5
      · left; simpa [msks] using h5
      · exact absurd hK2 h5
    · exact .inr hK
theorem fv_asc : ∀ (F : List (List Int)) (K : List Nat) (p : Nat), fv K p F = true → (msks F).Pairwise (· < ·) ∧ ∀ q ∈ msks F, p < q := by
  intro F
  induction F with
  | nil => intro K p _; simp [msks]
  | cons l F ih =>
    intro K p h
    simp only [fv, Bool.and_eq_true, Bool.not_eq_true', decide_eq_true_eq] at h
    obtain ⟨⟨⟨h1, h2⟩, h3⟩, h4⟩ := h
    obtain ⟨h5, h6⟩ := ih _ _ h4
    have e : msks (l :: F) = msk l :: msks F := rfl
    rw [e]
    refine ⟨List.pairwise_cons.2 ⟨h6, h5⟩, fun q hq => ?_⟩
    rcases List.mem_cons.1 hq with rfl | hq
    · exact h2
    · have := h6 q hq; omega
theorem famOk_sys {F : List (List Int)} (h : famOk F = true) : Sys (msks F) := by
  have hv := famOk_allV h
  have hm := msks_msk hv
  simp only [famOk, Bool.and_eq_true] at h
  have h1 := fv_asc F [] 0 h.2
  have h2 : (msks F).Pairwise (fun a b => sub a b = false) := by
    rcases fv_sys F [] 0 h.2 with h3 | h3
    · simpa using h3
    · exact absurd List.Pairwise.nil h3
  refine ⟨hm, h1.1, ?_, h1.2⟩
  intro q hq r hr hs
  rcases Nat.lt_trichotomy q r with h3 | h3 | h3
  · exfalso
    obtain ⟨i, hi, ei⟩ := List.getElem_of_mem hq
    obtain ⟨j, hj, ej⟩ := List.getElem_of_mem hr
    have hij : i < j := by
      rcases Nat.lt_trichotomy i j with h4 | h4 | h4
      · exact h4
      · subst h4; omega
      · have := List.pairwise_iff_getElem.1 h1.1 j i hj hi h4; omega
    have := List.pairwise_iff_getElem.1 h2 i j hi hj hij
    rw [ei, ej, hs] at this; cases this
  · exact h3
  · have := sub_le (hm q hq) (hm r hr) hs; omega
theorem sys_fv : ∀ (K P : List Nat) (p : Nat), Msk K → K.Pairwise (· < ·) → Anti (P ++ K) → (∀ q ∈ P, q ≤ p) → (∀ q ∈ K, p < q) → fv P p (mems K) = true := by
  intro K
  induction K with
  | nil => intro P p _ _ _ _ _; rfl
  | cons k K ih =>
    intro P p hm hs ha hP hp
    have e : mems (k :: K) = mem k :: mems K := rfl
    have hk := hm k (by simp)
    rw [List.pairwise_cons] at hs
    rw [e, fv, msk_mem hk, vld_mem hk]
    simp only [Bool.true_and, Bool.and_eq_true, decide_eq_true_eq, Bool.not_eq_true']
    refine ⟨⟨hp k (by simp), ?_⟩, ih (P ++ [k]) k (fun q hq => hm q (by simp [hq])) hs.2 (by simpa using ha) ?_ hs.1⟩
    · rw [Bool.eq_false_iff]
      intro h
      obtain ⟨q, hq, h2⟩ := mem_hasQ.1 h
      have := ha q (by simp [hq]) k (by simp) h2
      have := hP q hq
      have := hp k (by simp)
      omega
    · intro q hq
      rcases List.mem_append.1 hq with h | h
      · have := hP q h; have := hp k (by simp); omega
      · simp at h; omega
theorem sys_famOk {K : List Nat} (h : Sys K) : famOk (mems K) = true := by
  have h1 := anti_len h.1 h.2.1 h.2.2.1
  have h2 := sys_fv K [] 0 h.1 h.2.1 (by simpa using h.2.2.1) (by simp) h.2.2.2
  have h3 : (mems K).length ≤ 20 := by simpa [mems] using h1
  rw [famOk, h2, decide_eq_true h3]
  rfl
theorem mins_sys {S : List Nat} (hS : Msk S) (h0 : 0 ∉ S) : Sys (mins S) :=
  ⟨mins_lt S, mins_sorted S, mins_anti hS, fun q hq => by
    rcases Nat.eq_zero_or_pos q with rfl | h
    · exact absurd ((mem_mins hS).1 hq).1 h0
    · exact h⟩
theorem mins_ne {S : List Nat} (hS : Msk S) {m : Nat} (h : m ∈ S) : mins S ≠ [] := by
  obtain ⟨k, hk, _⟩ := mins_below hS m m (Nat.le_refl _) h
  intro e
  rw [e] at hk
  cases hk
theorem trs_zero {K : List Nat} (h : K ≠ []) : 0 ∉ trs K := by
  intro h0
  have h1 := (mem_trs.1 h0).2
  rw [hits_iff] at h1
  cases K with
  | nil => exact h rfl
  | cons q K => exact h1 q (by simp) (by simp)
theorem trs_all {K : List Nat} (h : Sys K) : 63 ∈ trs K := by
  refine mem_trs.2 ⟨by omega, hits_iff.2 fun q hq h0 => ?_⟩
  have hq1 := h.1 q hq
  have hq2 := h.2.2.2 q hq
  have H : ∀ a : Fin 64, a.val &&& 63 = a.val := by decide +kernel
  have := H ⟨q, hq1⟩
  simp only at this
  omega
end Go.Proofs.Ytgbijndfpbcjeaa
