/- Quorum systems as lists of masks, no program: minimal sets, in the ways that the model and the program find them. -/
import Derived.Test.YtimijinldhpmfaaMath2
namespace Go.Proofs.Ytimijinldhpmfaa

/-- The set of mask a is a subset of that of mask b. -/
def sub (a b : Nat) : Bool := andNot a b == 0
def hasQ (f : List Nat) (s : Nat) : Bool := f.any fun q => sub q s
def hitsQ (f : List Nat) (s : Nat) : Bool := f.all fun q => !((q &&& s) == 0)
theorem sub_and {a b : Nat} (ha : a < 64) (hb : b < 64) : sub a b = true ↔ a &&& b = a := by
  have H : ∀ a b : Fin 64, (sub a.val b.val = true ↔ a.val &&& b.val = a.val) := by decide +kernel
  exact H ⟨a, ha⟩ ⟨b, hb⟩
theorem sub_refl {a : Nat} (ha : a < 64) : sub a a = true := (sub_and ha ha).2 (Nat.and_self a)
theorem sub_trans {a b c : Nat} (ha : a < 64) (hb : b < 64) (hc : c < 64) (h1 : sub a b = true) (h2 : sub b c = true) : sub a c = true := by
  rw [sub_and ha hb] at h1
  rw [sub_and hb hc] at h2
  rw [sub_and ha hc]
  rw [← h1, Nat.and_assoc, h2]
theorem sub_le {a b : Nat} (ha : a < 64) (hb : b < 64) (h : sub a b = true) : a ≤ b := by
  rw [sub_and ha hb] at h
  rw [← h]; exact Nat.and_le_right
theorem sub_anti {a b : Nat} (ha : a < 64) (hb : b < 64) (h : sub a b = true) (h2 : sub b a = true) : a = b :=
  Nat.le_antisymm (sub_le ha hb h) (sub_le hb ha h2)

theorem mem_hasQ {f : List Nat} {s : Nat} : hasQ f s = true ↔ ∃ q ∈ f, sub q s = true := by simp [hasQ]
theorem hasQ_snoc (f : List Nat) (q s : Nat) : hasQ (f ++ [q]) s = (hasQ f s || sub q s) := by simp [hasQ]

/-- The minimal sets of a collection, ascending. -/
def minB (S : List Nat) (m : Nat) : Bool := S.contains m && S.all fun q => !sub q m || q == m
def mins (S : List Nat) : List Nat := (List.range 64).filter (minB S)
theorem minB_iff {S : List Nat} {m : Nat} : minB S m = true ↔ m ∈ S ∧ ∀ q ∈ S, sub q m = true → q = m := by
  simp only [minB, Bool.and_eq_true, List.contains_iff_mem, List.all_eq_true, Bool.or_eq_true, Bool.not_eq_true', beq_iff_eq]
  constructor
  · rintro ⟨h1, h2⟩; exact ⟨h1, fun q hq hs => (h2 q hq).resolve_left (by simp [hs])⟩
  · rintro ⟨h1, h2⟩; refine ⟨h1, fun q hq => ?_⟩
    cases hs : sub q m
    · exact .inl rfl
    · exact .inr (h2 q hq hs)
def Msk (S : List Nat) : Prop := ∀ q ∈ S, q < 64
theorem mem_mins {S : List Nat} (hS : Msk S) {m : Nat} : m ∈ mins S ↔ m ∈ S ∧ ∀ q ∈ S, sub q m = true → q = m := by
  rw [mins, List.mem_filter, minB_iff, List.mem_range]
  exact ⟨fun h => h.2, fun h => ⟨hS m h.1, h⟩⟩
theorem mins_lt (S : List Nat) : Msk (mins S) := fun q hq => by simpa using (List.mem_filter.1 hq).1
theorem mins_sorted (S : List Nat) : (mins S).Pairwise (· < ·) := List.Pairwise.filter _ List.pairwise_lt_range
theorem mins_len (S : List Nat) : (mins S).length ≤ 64 := Nat.le_trans (List.length_filter_le _ _) (by simp)
/-- Two ascending lists with the same members are one. -/
theorem asc_ext {a b : List Nat} (ha : a.Pairwise (· < ·)) (hb : b.Pairwise (· < ·)) (h : ∀ m, m ∈ a ↔ m ∈ b) : a = b := by
  induction a generalizing b with
  | nil =>
    cases b with
    | nil => rfl
    | cons y b => exact absurd ((h y).2 (by simp)) (by simp)
  | cons x a ih =>
    cases b with
    | nil => exact absurd ((h x).1 (by simp)) (by simp)
    | cons y b =>
      rw [List.pairwise_cons] at ha hb
      have hxy : x = y := by
        have h1 := (h x).1 (by simp)
        have h2 := (h y).2 (by simp)
        rcases List.mem_cons.1 h1 with e | e
        · exact e
        · rcases List.mem_cons.1 h2 with e2 | e2
          · exact e2.symm
          · have := hb.1 x e; have := ha.1 y e2; omega
      subst hxy
      congr 1
      refine ih ha.2 hb.2 fun m => ?_
      have hm := h m
      constructor
      · intro hma
        rcases List.mem_cons.1 (hm.1 (by simp [hma])) with e | e
        · subst e; exact absurd (ha.1 m hma) (by omega)
        · exact e
      · intro hmb
        rcases List.mem_cons.1 (hm.2 (by simp [hmb])) with e | e
        · subst e; exact absurd (hb.1 m hmb) (by omega)
        · exact e

/-- What the program knows while its heap empties: a is still in the heap, K has been kept. -/
def Kept (S a K : List Nat) : Prop :=
  ∃ P : List Nat, (P ++ a).Perm S ∧ (∀ p ∈ P, ∀ x ∈ a, p ≤ x) ∧ (∀ p ∈ P, hasQ K p = true) ∧ (∀ k ∈ K, k ∈ P) ∧ K.Pairwise (· < ·) ∧ ∀ k ∈ K, ∀ q ∈ P, sub q k = true → q = k
theorem Kept.start (S a : List Nat) (h : a.Perm S) : Kept S a [] := ⟨[], by simpa using h, by simp, by simp, by simp, by simp, by simp⟩
theorem Kept.msk {S a K : List Nat} (h : Kept S a K) (hS : Msk S) : Msk a ∧ Msk K := by
  obtain ⟨P, hp, _, _, hK, _⟩ := h
  exact ⟨fun q hq => hS q (hp.mem_iff.1 (by simp [hq])), fun q hq => hS q (hp.mem_iff.1 (by simp [hK q hq]))⟩
theorem asc_len {n : Nat} : ∀ (K : List Nat) (lo : Nat), (∀ k ∈ K, lo ≤ k ∧ k < n) → K.Pairwise (· < ·) → K.length ≤ n - lo := by
  intro K
  induction K with
  | nil => intro lo _ _; simp
  | cons x K ih =>
    intro lo h hs
    rw [List.pairwise_cons] at hs
    have h1 := h x (by simp)
    have := ih (x + 1) (fun k hk => ⟨hs.1 k hk, (h k (by simp [hk])).2⟩) hs.2
    simp; omega
theorem Kept.len {S a K : List Nat} (h : Kept S a K) (hS : Msk S) : K.length ≤ 64 := by
  have hm := (h.msk hS).2
  obtain ⟨P, hp, _, _, hK, hs, _⟩ := h
  exact asc_len K 0 (fun k hk => ⟨Nat.zero_le _, hm k hk⟩) hs
theorem Kept.step {S a b K : List Nat} {s : Nat} (h : Kept S a K) (hS : Msk S) (hab : a.Perm (s :: b)) (hmin : ∀ x ∈ b, s ≤ x) :
    (hasQ K s = true → Kept S b K) ∧ (hasQ K s = false → Kept S b (K ++ [s])) := by
  have hm := h.msk hS
  obtain ⟨P, hp, hle, hhas, hK, hs, hmn⟩ := h
  have hsa : s ∈ a := hab.mem_iff.2 (by simp)
  have hs64 : s < 64 := hm.1 s hsa
  have hPm : ∀ p ∈ P, p < 64 := fun p hq => hS p (hp.mem_iff.1 (by simp [hq]))
  have hp' : ((P ++ [s]) ++ b).Perm S := by
    refine List.Perm.trans ?_ hp
    simp only [List.append_assoc, List.singleton_append]
    exact (hab.symm).append_left P
  have hle' : ∀ p ∈ P ++ [s], ∀ x ∈ b, p ≤ x := by
    intro p hpp x hx
    rcases List.mem_append.1 hpp with h1 | h1
    · exact hle p h1 x (hab.mem_iff.2 (by simp [hx]))
    · simp at h1; subst h1; exact hmin x hx
  constructor
  · intro hq
    refine ⟨P ++ [s], hp', hle', ?_, fun k hk => by simp [hK k hk], hs, ?_⟩
    · intro p hpp
      rcases List.mem_append.1 hpp with h1 | h1
      · exact hhas p h1
      · simp at h1; subst h1; exact hq
    · intro k hk q hqq hsub
      rcases List.mem_append.1 hqq with h1 | h1
      · exact hmn k hk q h1 hsub
      · simp at h1; subst h1
        obtain ⟨r, hr, hrs⟩ := mem_hasQ.1 hq
        have hrk : sub r k = true := sub_trans (hm.2 r hr) hs64 (hm.2 k hk) hrs hsub
        have e := hmn k hk r (hK r hr) hrk
        subst e
        exact sub_anti hs64 (hm.2 r hr) hsub hrs
  · intro hq
    have hno : ∀ r ∈ K, sub r s = false := by simpa [hasQ] using hq
    refine ⟨P ++ [s], hp', hle', ?_, ?_, ?_, ?_⟩
    · intro p hpp
      rw [hasQ_snoc]
      rcases List.mem_append.1 hpp with h1 | h1
      · simp [hhas p h1]
      · simp at h1; subst h1; simp [sub_refl hs64]
    · intro k hk
      rcases List.mem_append.1 hk with h1 | h1
      · simp [hK k h1]
      · simp at h1; subst h1; simp
    · rw [List.pairwise_append]
      refine ⟨hs, by simp, ?_⟩
      intro x hx y hy
      simp at hy; subst hy
      have h1 := hle x (hK x hx) y hsa
      rcases Nat.lt_or_ge x y with h2 | h2
      · exact h2
      · have e : x = y := by omega
        subst e
        have := hno x hx
        rw [sub_refl hs64] at this; cases this
    · intro k hk q hqq hsub
      rcases List.mem_append.1 hk with h1 | h1
      · rcases List.mem_append.1 hqq with h2 | h2
        · exact hmn k h1 q h2 hsub
        · simp at h2; subst h2
          have h3 := sub_le hs64 (hm.2 k h1) hsub
          have h4 := hle k (hK k h1) q hsa
          omega
      · simp at h1; subst h1
        rcases List.mem_append.1 hqq with h2 | h2
        · obtain ⟨r, hr, hrs⟩ := mem_hasQ.1 (hhas q h2)
          have := sub_trans (hm.2 r hr) (hPm q h2) hs64 hrs hsub
          rw [hno r hr] at this; cases this
        · simpa using h2
theorem Kept.done {S K : List Nat} (h : Kept S [] K) (hS : Msk S) : K = mins S := by
  obtain ⟨P, hp, hle, hhas, hK, hs, hmn⟩ := h
  rw [List.append_nil] at hp
  refine asc_ext hs (mins_sorted S) fun m => ?_
  rw [mem_mins hS]
  constructor
  · intro hm
    exact ⟨hp.mem_iff.1 (hK m hm), fun q hq hsub => hmn m hm q (hp.mem_iff.2 hq) hsub⟩
  · rintro ⟨hm, hmin⟩
    obtain ⟨r, hr, hrs⟩ := mem_hasQ.1 (hhas m (hp.mem_iff.2 hm))
    rw [← hmin r (hp.mem_iff.1 (hK r hr)) hrs]
    exact hr

/-- How the model asks it: a quorum within, and none with one member less. -/
def less (m : Nat) (x : Int) : Nat := andNot m (2 ^ (x.toNat - 1))
def minS (S : List Nat) (m : Nat) : Bool := hasQ S m && (mem m).all fun x => !hasQ S (less m x)
theorem less_ex {q m : Nat} (hq : q < 64) (hm : m < 64) (h : sub q m = true) (hne : q ≠ m) : ∃ x ∈ mem m, sub q (less m x) = true := by
  have H : ∀ q m : Fin 64, sub q.val m.val = true → q ≠ m → (mem m.val).any (fun x => sub q.val (less m.val x)) = true := by decide +kernel
  have := H ⟨q, hq⟩ ⟨m, hm⟩ h (by simpa using hne)
  simpa using this
theorem less_of {q m : Nat} (hq : q < 64) (hm : m < 64) {x : Int} (hx : x ∈ mem m) (h : sub q (less m x) = true) : sub q m = true ∧ q ≠ m := by
  have H : ∀ q m : Fin 64, (mem m.val).all (fun x => !sub q.val (less m.val x) || (sub q.val m.val && q.val != m.val)) = true := by decide +kernel
  have := List.all_eq_true.1 (H ⟨q, hq⟩ ⟨m, hm⟩) x hx
  simp [h] at this
  exact this
theorem minS_eq {S : List Nat} (hS : Msk S) {m : Nat} (hm : m < 64) : minS S m = minB S m := by
  rw [Bool.eq_iff_iff, minB_iff]
  simp only [minS, Bool.and_eq_true, List.all_eq_true, Bool.not_eq_true', mem_hasQ]
  constructor
  · rintro ⟨⟨q, hq, hsub⟩, hall⟩
    have key : ∀ r ∈ S, sub r m = true → r = m := by
      intro r hr hs
      rcases Decidable.em (r = m) with e | e
      · exact e
      · obtain ⟨x, hx, hxs⟩ := less_ex (hS r hr) hm hs e
        have := hall x hx
        have h2 : hasQ S (less m x) = true := mem_hasQ.2 ⟨r, hr, hxs⟩
        rw [this] at h2; cases h2
    exact ⟨by rw [← key q hq hsub]; exact hq, key⟩
  · rintro ⟨h1, h2⟩
    refine ⟨⟨m, h1, sub_refl hm⟩, fun x hx => ?_⟩
    rw [Bool.eq_false_iff]
    intro hh
    obtain ⟨q, hq, hs⟩ := mem_hasQ.1 hh
    obtain ⟨h3, h4⟩ := less_of (hS q hq) hm hx hs
    exact h4 (h2 q hq h3)

/-- Sets as lists, and as masks. -/
def msks (F : List (List Int)) : List Nat := F.map msk
def mems (S : List Nat) : List (List Int) := S.map mem
def hasL (F : List (List Int)) (s : List Int) : Bool := F.any fun q => subs q s
def allV (F : List (List Int)) : Prop := ∀ l ∈ F, vld l = true
theorem subs_sub {a b : List Int} (ha : vld a = true) (hb : vld b = true) : subs a b = sub (msk a) (msk b) := (subs_msk ha hb).symm
theorem hasL_eq {F : List (List Int)} (hF : allV F) {s : List Int} (hs : vld s = true) : hasL F s = hasQ (msks F) (msk s) := by
  unfold hasL hasQ msks
  rw [List.any_map]
  induction F with
  | nil => rfl
  | cons a F ih =>
    simp only [List.any_cons, Function.comp]
    rw [subs_sub (hF a (by simp)) hs, ih (fun l hl => hF l (by simp [hl]))]
theorem msks_msk {F : List (List Int)} (hF : allV F) : Msk (msks F) := by
  intro q hq
  obtain ⟨l, hl, rfl⟩ := List.mem_map.1 hq
  exact msk_lt (hF l hl)
theorem msks_mems {S : List Nat} (hS : Msk S) : msks (mems S) = S := by
  unfold msks mems
  rw [List.map_map]
  conv => rhs; rw [← List.map_id S]
  exact List.map_congr_left fun m hm => msk_mem (hS m hm)
theorem mems_msks {F : List (List Int)} (hF : allV F) : mems (msks F) = F := by
  unfold msks mems
  rw [List.map_map]
  conv => rhs; rw [← List.map_id F]
  exact List.map_congr_left fun l hl => mem_msk (hF l hl)
theorem mems_allV {S : List Nat} (hS : Msk S) : allV (mems S) := by
  intro l hl
  obtain ⟨m, hm, rfl⟩ := List.mem_map.1 hl
  exact vld_mem (hS m hm)
/-- One member struck from a set. -/
theorem erase_less {m : Nat} (hm : m < 64) {i : Nat} {x : Int} (hx : (mem m)[i]? = some x) : vld ((mem m).eraseIdx i) = true ∧ msk ((mem m).eraseIdx i) = less m x := by
  have H : ∀ m : Fin 64, ∀ i : Fin 6, ∀ x ∈ ([1, 2, 3, 4, 5, 6] : List Int), (mem m.val)[i.val]? = some x → vld ((mem m.val).eraseIdx i.val) = true ∧ msk ((mem m.val).eraseIdx i.val) = less m.val x := by decide +kernel
  have hi : i < 6 := Nat.lt_of_lt_of_le (List.getElem?_eq_some_iff.1 hx).1 (mem_len m)
  exact H ⟨m, hm⟩ ⟨i, hi⟩ x (List.mem_filter.1 (List.mem_of_getElem? hx)).1 hx

/-- The program's test of a quorum system: K has been read, its last mask is p. -/
def fv : List Nat → Nat → List (List Int) → Bool
  | _, _, [] => true
  | K, p, l :: r => vld l && decide (p < msk l) && !hasQ K (msk l) && fv (K ++ [msk l]) (msk l) r
def famOk (F : List (List Int)) : Bool := decide (F.length ≤ 20) && fv [] 0 F
theorem fv_allV : ∀ (F : List (List Int)) (K : List Nat) (p : Nat), fv K p F = true → allV F := by
  intro F
  induction F with
  | nil => intro K p _ l hl; cases hl
  | cons a F ih =>
    intro K p h l hl
    simp only [fv, Bool.and_eq_true] at h
    rcases List.mem_cons.1 hl with rfl | h1
    · exact h.1.1.1
    · exact ih _ _ h.2 l h1
theorem famOk_allV {F : List (List Int)} (h : famOk F = true) : allV F := by
  simp only [famOk, Bool.and_eq_true] at h
  exact fv_allV F [] 0 h.2
theorem famOk_len {F : List (List Int)} (h : famOk F = true) : F.length ≤ 20 := by
  simp only [famOk, Bool.and_eq_true, decide_eq_true_eq] at h
  exact h.1
end Go.Proofs.Ytimijinldhpmfaa
