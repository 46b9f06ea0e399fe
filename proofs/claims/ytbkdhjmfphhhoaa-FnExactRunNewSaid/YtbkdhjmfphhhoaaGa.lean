/- Plain facts on lists of integers, no program: valid member sets, their masks, and that there are 64 of them. -/
namespace Go.Proofs.Ytbkdhjmfphhhoaa

/-- Ascending members above p, at most 6. -/
def vf : Int → List Int → Bool
  | _, [] => true
  | p, x :: xs => decide (p < x) && decide (x ≤ 6) && vf x xs
def vld (l : List Int) : Bool := vf 0 l
/-- The mask that a scan reaches from the mask m on. -/
def mk : Nat → List Int → Nat
  | m, [] => m
  | m, x :: xs => mk (m ||| 2 ^ (x.toNat - 1)) xs
def msk (l : List Int) : Nat := mk 0 l
/-- The members of a mask. -/
def mem (m : Nat) : List Int := ([1, 2, 3, 4, 5, 6] : List Int).filter fun x => Nat.testBit m (x.toNat - 1)

/-- All ascending lists above p, for p from 6 down. -/
def lists : Nat → List (List Int)
  | 0 => [[]]
  | k + 1 => lists k ++ (lists k).map fun t => ((6 - k : Nat) : Int) :: t
def allSets : List (List Int) := lists 6

theorem lists_nil (k : Nat) : [] ∈ lists k := by
  induction k with
  | zero => simp [lists]
  | succ k ih => simp [lists, ih]
theorem lists_cons : ∀ k : Nat, k ≤ 6 → ∀ j : Nat, j < k → ∀ t ∈ lists j, (((6 - j : Nat) : Int) :: t) ∈ lists k := by
  intro k
  induction k with
  | zero => intro _ j hj; omega
  | succ k ih =>
    intro hk j hj t ht
    simp only [lists, List.mem_append, List.mem_map]
    rcases Nat.lt_or_ge j k with h | h
    · exact .inl (ih (by omega) j h t ht)
    · obtain rfl : j = k := by omega
      exact .inr ⟨t, ht, rfl⟩
theorem vf_lists (l : List Int) : ∀ p : Nat, p ≤ 6 → vf (p : Int) l = true → l ∈ lists (6 - p) := by
  induction l with
  | nil => intro p _ _; exact lists_nil _
  | cons x xs ih =>
    intro p hp h
    simp only [vf, Bool.and_eq_true, decide_eq_true_eq] at h
    obtain ⟨⟨h1, h2⟩, h3⟩ := h
    obtain ⟨n, rfl⟩ := Int.eq_ofNat_of_zero_le (show 0 ≤ x by omega)
    have := lists_cons (6 - p) (by omega) (6 - n) (by omega) xs (ih n (by omega) h3)
    rwa [show 6 - (6 - n) = n by omega] at this
theorem vld_all {l : List Int} (h : vld l = true) : l ∈ allSets := vf_lists l 0 (by omega) h
theorem all_of {P : List Int → Prop} (h : ∀ l ∈ allSets, P l) {l : List Int} (hv : vld l = true) : P l := h l (vld_all hv)

theorem vld_len {l : List Int} (h : vld l = true) : l.length ≤ 6 := all_of (P := fun l => l.length ≤ 6) (by decide +kernel) h
theorem msk_lt {l : List Int} (h : vld l = true) : msk l < 64 := all_of (P := fun l => msk l < 64) (by decide +kernel) h
theorem mem_msk {l : List Int} (h : vld l = true) : mem (msk l) = l := all_of (P := fun l => mem (msk l) = l) (by decide +kernel) h
theorem vld_mem {m : Nat} (h : m < 64) : vld (mem m) = true := by
  have H : ∀ m : Fin 64, vld (mem m.val) = true := by decide +kernel
  exact H ⟨m, h⟩

def has (l : List Int) (x : Int) : Bool := l.contains x
def union (a b : List Int) : List Int := ([1, 2, 3, 4, 5, 6] : List Int).filter fun x => has a x || has b x
def inter (a b : List Int) : List Int := a.filter fun x => has b x
def minus (a b : List Int) : List Int := a.filter fun x => !has b x
def subs (a b : List Int) : Bool := a.all fun x => has b x
def pairs : List (List Int × List Int) := allSets.flatMap fun a => allSets.map fun b => (a, b)
theorem pair_of {P : List Int → List Int → Prop} (h : ∀ l ∈ allSets, ∀ k ∈ allSets, P l k) {l k : List Int} (hv : vld l = true) (hk : vld k = true) : P l k := h l (vld_all hv) k (vld_all hk)
theorem union_msk {a b : List Int} (ha : vld a = true) (hb : vld b = true) : mem (msk a ||| msk b) = union a b :=
  pair_of (P := fun a b => mem (msk a ||| msk b) = union a b) (by decide +kernel) ha hb
theorem inter_msk {a b : List Int} (ha : vld a = true) (hb : vld b = true) : mem (msk a &&& msk b) = inter a b :=
  pair_of (P := fun a b => mem (msk a &&& msk b) = inter a b) (by decide +kernel) ha hb
def andNot (m n : Nat) : Nat := m &&& (255 - n)
theorem minus_msk {a b : List Int} (ha : vld a = true) (hb : vld b = true) : mem (andNot (msk a) (msk b)) = minus a b :=
  pair_of (P := fun a b => mem (andNot (msk a) (msk b)) = minus a b) (by decide +kernel) ha hb
theorem subs_msk {a b : List Int} (ha : vld a = true) (hb : vld b = true) : (andNot (msk a) (msk b) == 0) = subs a b :=
  pair_of (P := fun a b => (andNot (msk a) (msk b) == 0) = subs a b) (by decide +kernel) ha hb
theorem cont_msk {l : List Int} (h : vld l = true) (x : Int) : (decide (1 ≤ x) && decide (x ≤ 6) && Nat.testBit (msk l) (x.toNat - 1)) = has l x := by
  unfold has
  have H : ∀ l ∈ allSets, ∀ x ∈ ([1, 2, 3, 4, 5, 6] : List Int), Nat.testBit (msk l) (x.toNat - 1) = l.contains x := by decide +kernel
  have H2 : ∀ l ∈ allSets, ∀ y ∈ l, (1 : Int) ≤ y ∧ y ≤ 6 := by decide +kernel
  by_cases h1 : 1 ≤ x ∧ x ≤ 6
  · have hx : x ∈ ([1, 2, 3, 4, 5, 6] : List Int) := by simp; omega
    simp [h1.1, h1.2, H l (vld_all h) x hx]
  · have : l.contains x = false := by
      rw [Bool.eq_false_iff]; intro hc
      exact h1 (H2 l (vld_all h) x (by simpa using hc))
    rw [this]; simp; omega
/-- The sum of the bits, as the model adds them. -/
def bsum (l : List Int) : Int := l.foldr (fun x s => s + ((2 ^ (x.toNat - 1) : Nat) : Int)) 0
theorem bsum_msk {l : List Int} (h : vld l = true) : bsum l = (msk l : Int) := all_of (P := fun l => bsum l = (msk l : Int)) (by decide +kernel) h
/-- A set operation, empty where an operand is invalid. -/
def both (f : List Int → List Int → List Int) (a b : List Int) : List Int := if vld a = true ∧ vld b = true then f a b else []
theorem both_t {f : List Int → List Int → List Int} {a b : List Int} (ha : vld a = true) (hb : vld b = true) : both f a b = f a b := by simp [both, ha, hb]
theorem both_fa {f : List Int → List Int → List Int} {a b : List Int} (ha : vld a = false) : both f a b = [] := by simp [both, ha]
theorem both_fb {f : List Int → List Int → List Int} {a b : List Int} (hb : vld b = false) : both f a b = [] := by simp [both, hb]
def subsR (a b : List Int) : Bool := vld a && vld b && subs a b
def hasR (l : List Int) (x : Int) : Bool := vld l && has l x
def mskR (l : List Int) : Int := if vld l = true then (msk l : Int) else -1
def memR (m : Int) : List Int := if 0 ≤ m ∧ m ≤ 63 then mem m.toNat else []
def memOk (m : Int) : Bool := decide (0 ≤ m ∧ m ≤ 63)
theorem bsum_bd {l : List Int} (h : vld l = true) (k : Nat) : 0 ≤ bsum (l.drop k) ∧ bsum (l.drop k) ≤ 63 := by
  have H : ∀ l ∈ allSets, ∀ k : Fin 7, 0 ≤ bsum (l.drop k.val) ∧ bsum (l.drop k.val) ≤ 63 := by decide +kernel
  rcases Nat.lt_or_ge k 7 with hk | hk
  · exact H l (vld_all h) ⟨k, hk⟩
  · rw [List.drop_of_length_le (by have := vld_len h; omega)]; simp [bsum]
theorem bsum_cons (x : Int) (t : List Int) : bsum (x :: t) = bsum t + ((2 ^ (x.toNat - 1) : Nat) : Int) := rfl
theorem vld_at {l : List Int} (h : vld l = true) {k : Nat} {x : Int} (hx : l[k]? = some x) : 1 ≤ x ∧ x ≤ 6 := by
  have H : ∀ l ∈ allSets, ∀ y ∈ l, (1 : Int) ≤ y ∧ y ≤ 6 := by decide +kernel
  exact H l (vld_all h) x (List.mem_of_getElem? hx)
theorem union_len (a b : List Int) : (union a b).length ≤ 6 := Nat.le_trans (List.length_filter_le _ _) (by decide)
theorem inter_len (a b : List Int) : (inter a b).length ≤ a.length := List.length_filter_le _ _
theorem minus_len (a b : List Int) : (minus a b).length ≤ a.length := List.length_filter_le _ _
theorem mem_len (m : Nat) : (mem m).length ≤ 6 := Nat.le_trans (List.length_filter_le _ _) (by decide)
theorem both_len {f : List Int → List Int → List Int} (hf : ∀ a b, vld a = true → (f a b).length ≤ 6) (a b : List Int) : (both f a b).length ≤ 6 := by
  unfold both; split
  · rename_i h; exact hf a b h.1
  · simp
theorem memR_len (m : Int) : (memR m).length ≤ 6 := by unfold memR; split; exact mem_len _; simp
end Go.Proofs.Ytbkdhjmfphhhoaa

/- More plain facts on valid member sets: membership, and the laws of union, intersection and difference. -/
namespace Go.Proofs.Ytbkdhjmfphhhoaa

def six : List Int := [1, 2, 3, 4, 5, 6]
def fil (p : Int → Bool) : List Int := six.filter p
theorem fil_congr {p q : Int → Bool} (h : ∀ x ∈ six, p x = q x) : fil p = fil q := List.filter_congr h
theorem has_fil (p : Int → Bool) {x : Int} (hx : x ∈ six) : has (fil p) x = p x := by
  unfold has fil
  rw [Bool.eq_iff_iff]
  simp [hx]
theorem has_out {l : List Int} (h : vld l = true) {x : Int} (hx : x ∉ six) : has l x = false := by
  have H2 : ∀ l ∈ allSets, ∀ y ∈ l, y ∈ six := by decide +kernel
  unfold has
  rw [Bool.eq_false_iff]
  intro hc
  exact hx (H2 l (vld_all h) x (by simpa using hc))
theorem fil_has {a : List Int} (h : vld a = true) : fil (has a) = a := all_of (P := fun a => fil (has a) = a) (by decide +kernel) h
theorem vld_fil (p : Int → Bool) : vld (fil p) = true := by
  unfold fil six vld
  simp only [List.filter]
  cases p 1 <;> cases p 2 <;> cases p 3 <;> cases p 4 <;> cases p 5 <;> cases p 6 <;> decide
theorem union_fil (a b : List Int) : union a b = fil fun x => has a x || has b x := rfl
theorem inter_fil {a : List Int} (ha : vld a = true) (b : List Int) : inter a b = fil fun x => has a x && has b x := by
  unfold inter
  conv => lhs; rw [← fil_has ha]
  unfold fil
  rw [List.filter_filter]
  exact List.filter_congr fun _ _ => Bool.and_comm _ _
theorem minus_fil {a : List Int} (ha : vld a = true) (b : List Int) : minus a b = fil fun x => has a x && !has b x := by
  unfold minus
  conv => lhs; rw [← fil_has ha]
  unfold fil
  rw [List.filter_filter]
  exact List.filter_congr fun _ _ => Bool.and_comm _ _
theorem vld_un (a b : List Int) : vld (union a b) = true := by rw [union_fil]; exact vld_fil _
theorem vld_in {a : List Int} (ha : vld a = true) (b : List Int) : vld (inter a b) = true := by rw [inter_fil ha]; exact vld_fil _
theorem vld_mi {a : List Int} (ha : vld a = true) (b : List Int) : vld (minus a b) = true := by rw [minus_fil ha]; exact vld_fil _
theorem vld_nil : vld [] = true := rfl
theorem has_un {a b : List Int} {x : Int} (hx : x ∈ six) : has (union a b) x = (has a x || has b x) := by rw [union_fil, has_fil _ hx]
theorem has_in {a b : List Int} (ha : vld a = true) {x : Int} (hx : x ∈ six) : has (inter a b) x = (has a x && has b x) := by rw [inter_fil ha, has_fil _ hx]
theorem has_mi {a b : List Int} (ha : vld a = true) {x : Int} (hx : x ∈ six) : has (minus a b) x = (has a x && !has b x) := by rw [minus_fil ha, has_fil _ hx]
theorem has_un' {a b : List Int} (ha : vld a = true) (hb : vld b = true) (x : Int) : has (union a b) x = (has a x || has b x) := by
  by_cases hx : x ∈ six
  · exact has_un hx
  · rw [has_out (vld_un a b) hx, has_out ha hx, has_out hb hx]; rfl
theorem has_in' {a b : List Int} (ha : vld a = true) (x : Int) : has (inter a b) x = (has a x && has b x) := by
  by_cases hx : x ∈ six
  · exact has_in ha hx
  · rw [has_out (vld_in ha b) hx, has_out ha hx]; rfl
theorem has_mi' {a b : List Int} (ha : vld a = true) (x : Int) : has (minus a b) x = (has a x && !has b x) := by
  by_cases hx : x ∈ six
  · exact has_mi ha hx
  · rw [has_out (vld_mi ha b) hx, has_out ha hx]; rfl
theorem ext_has {a b : List Int} (ha : vld a = true) (hb : vld b = true) (h : ∀ x ∈ six, has a x = has b x) : a = b := by
  rw [← fil_has ha, ← fil_has hb]; exact fil_congr h
theorem un_comm (a b : List Int) : union b a = union a b := fil_congr fun _ _ => Bool.or_comm _ _
theorem un_assoc (a b c : List Int) : union (union a b) c = union a (union b c) :=
  fil_congr fun x hx => by rw [has_un hx, has_un hx, Bool.or_assoc]
theorem un_self {a : List Int} (ha : vld a = true) : union a a = a := ext_has (vld_un _ _) ha fun x hx => by rw [has_un hx, Bool.or_self]
theorem un_nil {a : List Int} (ha : vld a = true) : union a [] = a := ext_has (vld_un _ _) ha fun x hx => by rw [has_un hx]; simp [has]
theorem in_comm {a b : List Int} (ha : vld a = true) (hb : vld b = true) : inter b a = inter a b := by
  rw [inter_fil ha, inter_fil hb]; exact fil_congr fun _ _ => Bool.and_comm _ _
theorem in_un {a : List Int} (ha : vld a = true) (b c : List Int) : inter a (union b c) = union (inter a b) (inter a c) := by
  rw [inter_fil ha, union_fil (inter a b)]
  exact fil_congr fun x hx => by rw [has_un hx, has_in ha hx, has_in ha hx, Bool.and_or_distrib_left]
theorem mi_in {a : List Int} (ha : vld a = true) (b : List Int) : inter (minus a b) b = [] := by
  apply ext_has (vld_in (vld_mi ha b) b) vld_nil
  intro x hx
  rw [has_in (vld_mi ha b) hx, has_mi ha hx]
  cases has a x <;> cases has b x <;> simp [has]
theorem mi_un {a : List Int} (ha : vld a = true) (b : List Int) : union (minus a b) (inter a b) = a := by
  apply ext_has (vld_un _ _) ha
  intro x hx
  rw [has_un hx, has_mi ha hx, has_in ha hx]
  cases has a x <;> cases has b x <;> rfl
/-- Whether two lists are the same. -/
def same (l m : List Int) : Bool := decide (l = m)
theorem same_t {l m : List Int} (h : l = m) : same l m = true := by simp [same, h]
theorem same_f {l m : List Int} (h : l ≠ m) : same l m = false := by simp [same, h]
theorem subs_iff {a b : List Int} : subs a b = true ↔ ∀ x ∈ a, has b x = true := by simp [subs]
theorem has_mem {a : List Int} {x : Int} : has a x = true ↔ x ∈ a := by simp [has]
theorem subs_in {a : List Int} (ha : vld a = true) (b : List Int) : same (inter a b) a = subs a b := by
  rw [Bool.eq_iff_iff, subs_iff, same, decide_eq_true_eq]
  constructor
  · intro h x hx
    have h2 := has_in' ha (b := b) x
    rw [h, has_mem.2 hx] at h2
    simpa using h2.symm
  · intro h
    exact List.filter_eq_self.2 h
theorem subs_anti {a b : List Int} (ha : vld a = true) (hb : vld b = true) : (subs a b && subs b a) = same a b := by
  rw [Bool.eq_iff_iff, Bool.and_eq_true, subs_iff, subs_iff, same, decide_eq_true_eq]
  constructor
  · rintro ⟨h1, h2⟩
    apply ext_has ha hb
    intro x _
    rw [Bool.eq_iff_iff, has_mem, has_mem]
    exact ⟨fun h => has_mem.1 (h1 x h), fun h => has_mem.1 (h2 x h)⟩
  · rintro rfl
    exact ⟨fun x h => has_mem.2 h, fun x h => has_mem.2 h⟩
theorem subs_trans {a b c : List Int} (h1 : subs a b = true) (h2 : subs b c = true) : subs a c = true :=
  subs_iff.2 fun x hx => subs_iff.1 h2 x (has_mem.1 (subs_iff.1 h1 x hx))
theorem msk_inj {a b : List Int} (ha : vld a = true) (hb : vld b = true) (h : msk a = msk b) : a = b := by rw [← mem_msk ha, ← mem_msk hb, h]
theorem msk_mem {m : Nat} (h : m < 64) : msk (mem m) = m := by
  have H : ∀ m : Fin 64, msk (mem m.val) = m.val := by decide +kernel
  exact H ⟨m, h⟩
theorem msk_order {a b : List Int} (ha : vld a = true) (hb : vld b = true) (h : subs a b = true) : (msk a : Int) ≤ msk b ∧ (msk (minus b a) : Int) = msk b - msk a :=
  pair_of (P := fun a b => subs a b = true → (msk a : Int) ≤ msk b ∧ (msk (minus b a) : Int) = msk b - msk a) (by decide +kernel) ha hb h
/-- How often a number stands among the first k. -/
def cnt (l : List Int) (x : Int) (k : Nat) : Nat := ((l.take k).filter fun y => y == x).length
theorem cnt_zero (l : List Int) (x : Int) : cnt l x 0 = 0 := by simp [cnt]
theorem cnt_yes {l : List Int} {x y : Int} {k : Nat} (h : l[k]? = some y) (e : (y == x) = true) : cnt l x (k + 1) = cnt l x k + 1 := by
  simp [cnt, List.take_add_one, h, List.filter_append, e]
theorem cnt_no {l : List Int} {x y : Int} {k : Nat} (h : l[k]? = some y) (e : (y == x) = false) : cnt l x (k + 1) = cnt l x k := by
  simp [cnt, List.take_add_one, h, List.filter_append, e]
theorem cnt_le (l : List Int) (x : Int) (k : Nat) : cnt l x k ≤ k := Nat.le_trans (List.length_filter_le _ _) (List.length_take_le _ _)
theorem cnt_all {l : List Int} (h : vld l = true) (x : Int) : cnt l x l.length ≤ 1 ∧ has l x = (((cnt l x l.length : Nat) : Int) == 1) := by
  by_cases hx : x ∈ six
  · have H : ∀ l ∈ allSets, ∀ x ∈ six, cnt l x l.length ≤ 1 ∧ has l x = (((cnt l x l.length : Nat) : Int) == 1) := by decide +kernel
    exact H l (vld_all h) x hx
  · have h0 : cnt l x l.length = 0 := by
      have := has_out h hx
      simp [has] at this
      simp only [cnt, List.take_length]
      rw [List.length_eq_zero_iff, List.filter_eq_nil_iff]
      intro y hy e
      exact this (by rw [← eq_of_beq e]; exact hy)
    rw [h0, has_out h hx]
    exact ⟨by omega, rfl⟩
theorem bothN_len (a b : List Int) (h : a.length ≤ 7) : (both minus a b).length ≤ 7 := by
  unfold both; split
  · exact Nat.le_trans (minus_len a b) h
  · simp
theorem bigU (a b : List Int) : (both union a b).length ≤ 1048576 := by
  have := both_len (f := union) (fun a b _ => union_len a b) a b
  omega
theorem bigI {a : List Int} (b : List Int) (h : a.length ≤ 1048576) : (both inter a b).length ≤ 1048576 := by
  unfold both; split
  · exact Nat.le_trans (inter_len a b) h
  · simp
theorem bigN {a : List Int} (b : List Int) (h : a.length ≤ 1048576) : (both minus a b).length ≤ 1048576 := by
  unfold both; split
  · exact Nat.le_trans (minus_len a b) h
  · simp
theorem bigM (m : Nat) : (mem m).length ≤ 1048576 := by have := mem_len m; omega
section
variable {a b c : List Int} (ha : vld a = true) (hb : vld b = true) (hc : vld c = true)
include ha hb
theorem bv_un : vld (both union a b) = true := by rw [both_t ha hb]; exact vld_un a b
theorem bv_in : vld (both inter a b) = true := by rw [both_t ha hb]; exact vld_in ha b
theorem bv_mi : vld (both minus a b) = true := by rw [both_t ha hb]; exact vld_mi ha b
theorem hasR_un (x : Int) : hasR (both union a b) x = (hasR a x || hasR b x) := by
  unfold hasR; rw [bv_un ha hb, ha, hb, both_t ha hb]; simpa using has_un' ha hb x
theorem hasR_in (x : Int) : hasR (both inter a b) x = (hasR a x && hasR b x) := by
  unfold hasR; rw [bv_in ha hb, ha, hb, both_t ha hb]; simpa using has_in' ha x
theorem hasR_mi (x : Int) : hasR (both minus a b) x = (hasR a x && !hasR b x) := by
  unfold hasR; rw [bv_mi ha hb, ha, hb, both_t ha hb]; simpa using has_mi' ha x
theorem same_uc : same (both union b a) (both union a b) = true := same_t (by rw [both_t ha hb, both_t hb ha]; exact un_comm a b)
theorem same_ic : same (both inter b a) (both inter a b) = true := same_t (by rw [both_t ha hb, both_t hb ha]; exact in_comm ha hb)
theorem len_mi : (both inter (both minus a b) b).length = 0 := by
  rw [both_t (bv_mi ha hb) hb, both_t ha hb, mi_in ha b]; rfl
theorem same_mu : same (both union (both minus a b) (both inter a b)) a = true :=
  same_t (by rw [both_t (bv_mi ha hb) (bv_in ha hb), both_t ha hb, both_t ha hb]; exact mi_un ha b)
theorem subsR_vv : subsR a b = subs a b := by simp [subsR, ha, hb]
theorem same_si : same (both inter a b) a = subsR a b := by rw [both_t ha hb, subsR_vv ha hb]; exact subs_in ha b
theorem same_ss : same a b = (subsR a b && subsR b a) := by rw [subsR_vv ha hb, subsR_vv hb ha]; exact (subs_anti ha hb).symm
theorem mask_eq : (mskR a == mskR b) = same a b := by
  rw [Bool.eq_iff_iff, same, decide_eq_true_eq, beq_iff_eq]
  simp only [mskR, ha, hb, if_true]
  exact ⟨fun h => msk_inj ha hb (by omega), fun h => by rw [h]⟩
include hc
theorem same_ua : same (both union (both union a b) c) (both union a (both union b c)) = true :=
  same_t (by rw [both_t (bv_un ha hb) hc, both_t ha (bv_un hb hc), both_t ha hb, both_t hb hc]; exact un_assoc a b c)
theorem same_id : same (both inter a (both union b c)) (both union (both inter a b) (both inter a c)) = true :=
  same_t (by rw [both_t ha (bv_un hb hc), both_t (bv_in ha hb) (bv_in ha hc), both_t ha hb, both_t hb hc, both_t ha hc]; exact in_un ha b c)
end
theorem same_us {a : List Int} (ha : vld a = true) : same (both union a a) a = true := same_t (by rw [both_t ha ha]; exact un_self ha)
theorem same_un {a : List Int} (ha : vld a = true) : same (both union a []) a = true := same_t (by rw [both_t ha vld_nil]; exact un_nil ha)
theorem subsR_v {a b : List Int} (h : subsR a b = true) : vld a = true ∧ vld b = true := by simp [subsR] at h; exact ⟨h.1.1, h.1.2⟩
theorem subsR_nil {a : List Int} (ha : vld a = true) : subsR [] a = true := by simp [subsR, ha, vld_nil, subs]
theorem subsR_trans {a b c : List Int} (h1 : subsR a b = true) (h2 : subsR b c = true) : subsR a c = true := by
  have ⟨ha, hb⟩ := subsR_v h1
  have ⟨_, hc⟩ := subsR_v h2
  rw [subsR_vv ha hc]; rw [subsR_vv ha hb] at h1; rw [subsR_vv hb hc] at h2
  exact subs_trans h1 h2
theorem mskR_t {a : List Int} (ha : vld a = true) : mskR a = (msk a : Int) := by simp [mskR, ha]
theorem mskR_f {a : List Int} (ha : vld a = false) : mskR a = -1 := by simp [mskR, ha]
theorem mskR_rng (l : List Int) : -1 ≤ mskR l ∧ mskR l ≤ 63 := by
  unfold mskR
  split
  · rename_i h; have := msk_lt h; omega
  · omega
theorem mask_order {a b : List Int} (h : subsR a b = true) : mskR a ≤ mskR b ∧ mskR (both minus b a) = mskR b - mskR a := by
  have ⟨ha, hb⟩ := subsR_v h
  rw [subsR_vv ha hb] at h
  rw [mskR_t ha, mskR_t hb, mskR_t (bv_mi hb ha), both_t hb ha]
  exact msk_order ha hb h
theorem memR_msk {a : List Int} (ha : vld a = true) : memR (mskR a) = a ∧ memOk (mskR a) = true := by
  have h := msk_lt ha
  rw [mskR_t ha]
  refine ⟨?_, by simp [memOk]; omega⟩
  unfold memR; rw [if_pos ⟨by omega, by omega⟩]
  exact mem_msk ha
theorem mskR_memR {m : Int} (h0 : 0 ≤ m) (h1 : m < 64) : mskR (memR m) = m ∧ vld (memR m) = true ∧ memOk m = true := by
  obtain ⟨n, rfl⟩ := Int.eq_ofNat_of_zero_le h0
  have hn : n < 64 := by omega
  have e : memR (n : Int) = mem n := by unfold memR; rw [if_pos ⟨by omega, by omega⟩]; rfl
  refine ⟨?_, by rw [e]; exact vld_mem hn, by simp [memOk]; omega⟩
  rw [e, mskR_t (vld_mem hn), msk_mem hn]
theorem memOk_f {m : Int} (h : ¬ (0 ≤ m ∧ m < 64)) : memOk m = false := by simp [memOk]; omega
end Go.Proofs.Ytbkdhjmfphhhoaa

/- Quorum systems as lists of masks, no program: minimal sets, in the ways that the model and the program find them. -/
namespace Go.Proofs.Ytbkdhjmfphhhoaa

/-- The set of mask a is a subset of that of mask b. -/
def sub (a b : Nat) : Bool := andNot a b == 0
def hasQ (f : List Nat) (s : Nat) : Bool := f.any fun q => sub q s
def hitsQ (f : List Nat) (s : Nat) : Bool := f.all fun q => !((q &&& s) == 0)
theorem sub_and {a b : Nat} (ha : a < 64) (hb : b < 64) : sub a b = true ↔ a &&& b = a := by
  have H : ∀ a b : Fin 64, (sub a.val b.val = true ↔ a.val &&& b.val = a.val) := by decide +kernel
  exact H ⟨a, ha⟩ ⟨b, hb⟩
theorem sub_refl {a : Nat} (ha : a < 64) : sub a a = true := (sub_and ha ha).2 (Nat.and_self a)
theorem sub_trans {a b c : Nat} (ha : a < 64) (hb : b < 64) (hc : c < 64) (h1 : sub a b = true) (h2 : sub b c = true) : sub a c = true := by
  rw [sub_and ha hb] at h1
  rw [sub_and hb hc] at h2
  rw [sub_and ha hc]
  rw [← h1, Nat.and_assoc, h2]
theorem sub_le {a b : Nat} (ha : a < 64) (hb : b < 64) (h : sub a b = true) : a ≤ b := by
  rw [sub_and ha hb] at h
  rw [← h]; exact Nat.and_le_right
theorem sub_anti {a b : Nat} (ha : a < 64) (hb : b < 64) (h : sub a b = true) (h2 : sub b a = true) : a = b :=
  Nat.le_antisymm (sub_le ha hb h) (sub_le hb ha h2)

theorem mem_hasQ {f : List Nat} {s : Nat} : hasQ f s = true ↔ ∃ q ∈ f, sub q s = true := by simp [hasQ]
theorem hasQ_snoc (f : List Nat) (q s : Nat) : hasQ (f ++ [q]) s = (hasQ f s || sub q s) := by simp [hasQ]

/-- The minimal sets of a collection, ascending. -/
def minB (S : List Nat) (m : Nat) : Bool := S.contains m && S.all fun q => !sub q m || q == m
def mins (S : List Nat) : List Nat := (List.range 64).filter (minB S)
theorem minB_iff {S : List Nat} {m : Nat} : minB S m = true ↔ m ∈ S ∧ ∀ q ∈ S, sub q m = true → q = m := by
  simp only [minB, Bool.and_eq_true, List.contains_iff_mem, List.all_eq_true, Bool.or_eq_true, Bool.not_eq_true', beq_iff_eq]
  constructor
  · rintro ⟨h1, h2⟩; exact ⟨h1, fun q hq hs => (h2 q hq).resolve_left (by simp [hs])⟩
  · rintro ⟨h1, h2⟩; refine ⟨h1, fun q hq => ?_⟩
    cases hs : sub q m
    · exact .inl rfl
    · exact .inr (h2 q hq hs)
def Msk (S : List Nat) : Prop := ∀ q ∈ S, q < 64
theorem mem_mins {S : List Nat} (hS : Msk S) {m : Nat} : m ∈ mins S ↔ m ∈ S ∧ ∀ q ∈ S, sub q m = true → q = m := by
  rw [mins, List.mem_filter, minB_iff, List.mem_range]
  exact ⟨fun h => h.2, fun h => ⟨hS m h.1, h⟩⟩
theorem mins_lt (S : List Nat) : Msk (mins S) := fun q hq => by simpa using (List.mem_filter.1 hq).1
theorem mins_sorted (S : List Nat) : (mins S).Pairwise (· < ·) := List.Pairwise.filter _ List.pairwise_lt_range
theorem mins_len (S : List Nat) : (mins S).length ≤ 64 := Nat.le_trans (List.length_filter_le _ _) (by simp)
/-- Two ascending lists with the same members are one. -/
theorem asc_ext {a b : List Nat} (ha : a.Pairwise (· < ·)) (hb : b.Pairwise (· < ·)) (h : ∀ m, m ∈ a ↔ m ∈ b) : a = b := by
  induction a generalizing b with
  | nil =>
    cases b with
    | nil => rfl
    | cons y b => exact absurd ((h y).2 (by simp)) (by simp)
  | cons x a ih =>
    cases b with
    | nil => exact absurd ((h x).1 (by simp)) (by simp)
    | cons y b =>
      rw [List.pairwise_cons] at ha hb
      have hxy : x = y := by
        have h1 := (h x).1 (by simp)
        have h2 := (h y).2 (by simp)
        rcases List.mem_cons.1 h1 with e | e
        · exact e
        · rcases List.mem_cons.1 h2 with e2 | e2
          · exact e2.symm
          · have := hb.1 x e; have := ha.1 y e2; omega
      subst hxy
      congr 1
      refine ih ha.2 hb.2 fun m => ?_
      have hm := h m
      constructor
      · intro hma
        rcases List.mem_cons.1 (hm.1 (by simp [hma])) with e | e
        · subst e; exact absurd (ha.1 m hma) (by omega)
        · exact e
      · intro hmb
        rcases List.mem_cons.1 (hm.2 (by simp [hmb])) with e | e
        · subst e; exact absurd (hb.1 m hmb) (by omega)
        · exact e

/-- What the program knows while its heap empties: a is still in the heap, K has been kept. -/
def Kept (S a K : List Nat) : Prop :=
  ∃ P : List Nat, (P ++ a).Perm S ∧ (∀ p ∈ P, ∀ x ∈ a, p ≤ x) ∧ (∀ p ∈ P, hasQ K p = true) ∧ (∀ k ∈ K, k ∈ P) ∧ K.Pairwise (· < ·) ∧ ∀ k ∈ K, ∀ q ∈ P, sub q k = true → q = k
theorem Kept.start (S a : List Nat) (h : a.Perm S) : Kept S a [] := ⟨[], by simpa using h, by simp, by simp, by simp, by simp, by simp⟩
theorem Kept.msk {S a K : List Nat} (h : Kept S a K) (hS : Msk S) : Msk a ∧ Msk K := by
  obtain ⟨P, hp, _, _, hK, _⟩ := h
  exact ⟨fun q hq => hS q (hp.mem_iff.1 (by simp [hq])), fun q hq => hS q (hp.mem_iff.1 (by simp [hK q hq]))⟩
theorem asc_len {n : Nat} : ∀ (K : List Nat) (lo : Nat), (∀ k ∈ K, lo ≤ k ∧ k < n) → K.Pairwise (· < ·) → K.length ≤ n - lo := by
  intro K
  induction K with
  | nil => intro lo _ _; simp
  | cons x K ih =>
    intro lo h hs
    rw [List.pairwise_cons] at hs
    have h1 := h x (by simp)
    have := ih (x + 1) (fun k hk => ⟨hs.1 k hk, (h k (by simp [hk])).2⟩) hs.2
    simp; omega
theorem Kept.len {S a K : List Nat} (h : Kept S a K) (hS : Msk S) : K.length ≤ 64 := by
  have hm := (h.msk hS).2
  obtain ⟨P, hp, _, _, hK, hs, _⟩ := h
  exact asc_len K 0 (fun k hk => ⟨Nat.zero_le _, hm k hk⟩) hs
theorem Kept.step {S a b K : List Nat} {s : Nat} (h : Kept S a K) (hS : Msk S) (hab : a.Perm (s :: b)) (hmin : ∀ x ∈ b, s ≤ x) :
    (hasQ K s = true → Kept S b K) ∧ (hasQ K s = false → Kept S b (K ++ [s])) := by
  have hm := h.msk hS
  obtain ⟨P, hp, hle, hhas, hK, hs, hmn⟩ := h
  have hsa : s ∈ a := hab.mem_iff.2 (by simp)
  have hs64 : s < 64 := hm.1 s hsa
  have hPm : ∀ p ∈ P, p < 64 := fun p hq => hS p (hp.mem_iff.1 (by simp [hq]))
  have hp' : ((P ++ [s]) ++ b).Perm S := by
    refine List.Perm.trans ?_ hp
    simp only [List.append_assoc, List.singleton_append]
    exact (hab.symm).append_left P
  have hle' : ∀ p ∈ P ++ [s], ∀ x ∈ b, p ≤ x := by
    intro p hpp x hx
    rcases List.mem_append.1 hpp with h1 | h1
    · exact hle p h1 x (hab.mem_iff.2 (by simp [hx]))
    · simp at h1; subst h1; exact hmin x hx
  constructor
  · intro hq
    refine ⟨P ++ [s], hp', hle', ?_, fun k hk => by simp [hK k hk], hs, ?_⟩
    · intro p hpp
      rcases List.mem_append.1 hpp with h1 | h1
      · exact hhas p h1
      · simp at h1; subst h1; exact hq
    · intro k hk q hqq hsub
      rcases List.mem_append.1 hqq with h1 | h1
      · exact hmn k hk q h1 hsub
      · simp at h1; subst h1
        obtain ⟨r, hr, hrs⟩ := mem_hasQ.1 hq
        have hrk : sub r k = true := sub_trans (hm.2 r hr) hs64 (hm.2 k hk) hrs hsub
        have e := hmn k hk r (hK r hr) hrk
        subst e
        exact sub_anti hs64 (hm.2 r hr) hsub hrs
  · intro hq
    have hno : ∀ r ∈ K, sub r s = false := by simpa [hasQ] using hq
    refine ⟨P ++ [s], hp', hle', ?_, ?_, ?_, ?_⟩
    · intro p hpp
      rw [hasQ_snoc]
      rcases List.mem_append.1 hpp with h1 | h1
      · simp [hhas p h1]
      · simp at h1; subst h1; simp [sub_refl hs64]
    · intro k hk
      rcases List.mem_append.1 hk with h1 | h1
      · simp [hK k h1]
      · simp at h1; subst h1; simp
    · rw [List.pairwise_append]
      refine ⟨hs, by simp, ?_⟩
      intro x hx y hy
      simp at hy; subst hy
      have h1 := hle x (hK x hx) y hsa
      rcases Nat.lt_or_ge x y with h2 | h2
      · exact h2
      · have e : x = y := by omega
        subst e
        have := hno x hx
        rw [sub_refl hs64] at this; cases this
    · intro k hk q hqq hsub
      rcases List.mem_append.1 hk with h1 | h1
      · rcases List.mem_append.1 hqq with h2 | h2
        · exact hmn k h1 q h2 hsub
        · simp at h2; subst h2
          have h3 := sub_le hs64 (hm.2 k h1) hsub
          have h4 := hle k (hK k h1) q hsa
          omega
      · simp at h1; subst h1
        rcases List.mem_append.1 hqq with h2 | h2
        · obtain ⟨r, hr, hrs⟩ := mem_hasQ.1 (hhas q h2)
          have := sub_trans (hm.2 r hr) (hPm q h2) hs64 hrs hsub
          rw [hno r hr] at this; cases this
        · simpa using h2
theorem Kept.done {S K : List Nat} (h : Kept S [] K) (hS : Msk S) : K = mins S := by
  obtain ⟨P, hp, hle, hhas, hK, hs, hmn⟩ := h
  rw [List.append_nil] at hp
  refine asc_ext hs (mins_sorted S) fun m => ?_
  rw [mem_mins hS]
  constructor
  · intro hm
    exact ⟨hp.mem_iff.1 (hK m hm), fun q hq hsub => hmn m hm q (hp.mem_iff.2 hq) hsub⟩
  · rintro ⟨hm, hmin⟩
    obtain ⟨r, hr, hrs⟩ := mem_hasQ.1 (hhas m (hp.mem_iff.2 hm))
    rw [← hmin r (hp.mem_iff.1 (hK r hr)) hrs]
    exact hr

/-- How the model asks it: a quorum within, and none with one member less. -/
def less (m : Nat) (x : Int) : Nat := andNot m (2 ^ (x.toNat - 1))
def minS (S : List Nat) (m : Nat) : Bool := hasQ S m && (mem m).all fun x => !hasQ S (less m x)
theorem less_ex {q m : Nat} (hq : q < 64) (hm : m < 64) (h : sub q m = true) (hne : q ≠ m) : ∃ x ∈ mem m, sub q (less m x) = true := by
  have H : ∀ q m : Fin 64, sub q.val m.val = true → q ≠ m → (mem m.val).any (fun x => sub q.val (less m.val x)) = true := by decide +kernel
  have := H ⟨q, hq⟩ ⟨m, hm⟩ h (by simpa using hne)
  simpa using this
theorem less_of {q m : Nat} (hq : q < 64) (hm : m < 64) {x : Int} (hx : x ∈ mem m) (h : sub q (less m x) = true) : sub q m = true ∧ q ≠ m := by
  have H : ∀ q m : Fin 64, (mem m.val).all (fun x => !sub q.val (less m.val x) || (sub q.val m.val && q.val != m.val)) = true := by decide +kernel
  have := List.all_eq_true.1 (H ⟨q, hq⟩ ⟨m, hm⟩) x hx
  simp [h] at this
  exact this
theorem minS_eq {S : List Nat} (hS : Msk S) {m : Nat} (hm : m < 64) : minS S m = minB S m := by
  rw [Bool.eq_iff_iff, minB_iff]
  simp only [minS, Bool.and_eq_true, List.all_eq_true, Bool.not_eq_true', mem_hasQ]
  constructor
  · rintro ⟨⟨q, hq, hsub⟩, hall⟩
    have key : ∀ r ∈ S, sub r m = true → r = m := by
      intro r hr hs
      rcases Decidable.em (r = m) with e | e
      · exact e
      · obtain ⟨x, hx, hxs⟩ := less_ex (hS r hr) hm hs e
        have := hall x hx
        have h2 : hasQ S (less m x) = true := mem_hasQ.2 ⟨r, hr, hxs⟩
        rw [this] at h2; cases h2
    exact ⟨by rw [← key q hq hsub]; exact hq, key⟩
  · rintro ⟨h1, h2⟩
    refine ⟨⟨m, h1, sub_refl hm⟩, fun x hx => ?_⟩
    rw [Bool.eq_false_iff]
    intro hh
    obtain ⟨q, hq, hs⟩ := mem_hasQ.1 hh
    obtain ⟨h3, h4⟩ := less_of (hS q hq) hm hx hs
    exact h4 (h2 q hq h3)

/-- Sets as lists, and as masks. -/
def msks (F : List (List Int)) : List Nat := F.map msk
def mems (S : List Nat) : List (List Int) := S.map mem
def hasL (F : List (List Int)) (s : List Int) : Bool := F.any fun q => subs q s
def allV (F : List (List Int)) : Prop := ∀ l ∈ F, vld l = true
theorem subs_sub {a b : List Int} (ha : vld a = true) (hb : vld b = true) : subs a b = sub (msk a) (msk b) := (subs_msk ha hb).symm
theorem hasL_eq {F : List (List Int)} (hF : allV F) {s : List Int} (hs : vld s = true) : hasL F s = hasQ (msks F) (msk s) := by
  unfold hasL hasQ msks
  rw [List.any_map]
  induction F with
  | nil => rfl
  | cons a F ih =>
    simp only [List.any_cons, Function.comp]
    rw [subs_sub (hF a (by simp)) hs, ih (fun l hl => hF l (by simp [hl]))]
theorem msks_msk {F : List (List Int)} (hF : allV F) : Msk (msks F) := by
  intro q hq
  obtain ⟨l, hl, rfl⟩ := List.mem_map.1 hq
  exact msk_lt (hF l hl)
theorem msks_mems {S : List Nat} (hS : Msk S) : msks (mems S) = S := by
  unfold msks mems
  rw [List.map_map]
  conv => rhs; rw [← List.map_id S]
  exact List.map_congr_left fun m hm => msk_mem (hS m hm)
theorem mems_msks {F : List (List Int)} (hF : allV F) : mems (msks F) = F := by
  unfold msks mems
  rw [List.map_map]
  conv => rhs; rw [← List.map_id F]
  exact List.map_congr_left fun l hl => mem_msk (hF l hl)
theorem mems_allV {S : List Nat} (hS : Msk S) : allV (mems S) := by
  intro l hl
  obtain ⟨m, hm, rfl⟩ := List.mem_map.1 hl
  exact vld_mem (hS m hm)
/-- One member struck from a set. -/
theorem erase_less {m : Nat} (hm : m < 64) {i : Nat} {x : Int} (hx : (mem m)[i]? = some x) : vld ((mem m).eraseIdx i) = true ∧ msk ((mem m).eraseIdx i) = less m x := by
  have H : ∀ m : Fin 64, ∀ i : Fin 6, ∀ x ∈ ([1, 2, 3, 4, 5, 6] : List Int), (mem m.val)[i.val]? = some x → vld ((mem m.val).eraseIdx i.val) = true ∧ msk ((mem m.val).eraseIdx i.val) = less m.val x := by decide +kernel
  have hi : i < 6 := Nat.lt_of_lt_of_le (List.getElem?_eq_some_iff.1 hx).1 (mem_len m)
  exact H ⟨m, hm⟩ ⟨i, hi⟩ x (List.mem_filter.1 (List.mem_of_getElem? hx)).1 hx

/-- The program's test of a quorum system: K has been read, its last mask is p. -/
def fv : List Nat → Nat → List (List Int) → Bool
  | _, _, [] => true
  | K, p, l :: r => vld l && decide (p < msk l) && !hasQ K (msk l) && fv (K ++ [msk l]) (msk l) r
def famOk (F : List (List Int)) : Bool := decide (F.length ≤ 20) && fv [] 0 F
theorem fv_allV : ∀ (F : List (List Int)) (K : List Nat) (p : Nat), fv K p F = true → allV F := by
  intro F
  induction F with
  | nil => intro K p _ l hl; cases hl
  | cons a F ih =>
    intro K p h l hl
    simp only [fv, Bool.and_eq_true] at h
    rcases List.mem_cons.1 hl with rfl | h1
    · exact h.1.1.1
    · exact ih _ _ h.2 l h1
theorem famOk_allV {F : List (List Int)} (h : famOk F = true) : allV F := by
  simp only [famOk, Bool.and_eq_true] at h
  exact fv_allV F [] 0 h.2
theorem famOk_len {F : List (List Int)} (h : famOk F = true) : F.length ≤ 20 := by
  simp only [famOk, Bool.and_eq_true, decide_eq_true_eq] at h
  exact h.1
end Go.Proofs.Ytbkdhjmfphhhoaa

/- Quorum expressions as trees, their texts, and a parser of texts; plain facts, no program. -/
namespace Go.Proofs.Ytbkdhjmfphhhoaa

inductive Ex where
  | mem (m : Nat)
  | thr (k : Nat) (es : List Ex)

def dg (k : Nat) : UInt8 := UInt8.ofNat (48 + k)
def isD (b : UInt8) : Bool := decide (49 ≤ b.toNat) && decide (b.toNat ≤ 54)
theorem dg_toNat {k : Nat} (h : k ≤ 9) : (dg k).toNat = 48 + k := by
  have H : ∀ n : Fin 10, (dg n.val).toNat = 48 + n.val := by decide
  exact H ⟨k, by omega⟩
theorem isD_dg {k : Nat} (h1 : 1 ≤ k) (h2 : k ≤ 6) : isD (dg k) = true := by
  simp [isD, dg_toNat (show k ≤ 9 by omega)]; omega
theorem dg_of {b : UInt8} (h : isD b = true) : dg (b.toNat - 48) = b ∧ 1 ≤ b.toNat - 48 ∧ b.toNat - 48 ≤ 6 := by
  simp [isD] at h
  refine ⟨?_, by omega, by omega⟩
  apply UInt8.toNat_inj.1
  rw [dg_toNat (by omega)]; omega

mutual
/-- The text of a tree. -/
def tx : Ex → List UInt8
  | .mem m => [dg m]
  | .thr k es => dg k :: 40 :: txL es
/-- The texts of operands, each with what follows it. -/
def txL : List Ex → List UInt8
  | [] => [41]
  | e :: es => tx e ++ txT es
def txT : List Ex → List UInt8
  | [] => [41]
  | e :: es => 44 :: (tx e ++ txT es)
end
theorem txL_cons (e : Ex) (es : List Ex) : txL (e :: es) = tx e ++ txT es := by simp [txL]
theorem txT_cons (e : Ex) (es : List Ex) : txT (e :: es) = 44 :: txL (e :: es) := by simp [txL, txT]
theorem txT_nil : txT [] = [41] := by simp [txT]

mutual
def wf : Ex → Prop
  | .mem m => 1 ≤ m ∧ m ≤ 6
  | .thr k es => 1 ≤ k ∧ k ≤ es.length ∧ es.length ≤ 6 ∧ wfL es
def wfL : List Ex → Prop
  | [] => True
  | e :: es => wf e ∧ wfL es
end

mutual
/-- Parses one expression ahead of a rest; the number bounds the calls. -/
def pE : Nat → List UInt8 → Option (Ex × List UInt8)
  | 0, _ => none
  | _ + 1, [] => none
  | n + 1, b :: r => if isD b = true then
      (match r with
      | [] => some (.mem (b.toNat - 48), [])
      | c :: r' => if c = 40 then
          (match pL n 6 r' with
          | none => none
          | some (es, r2) => if b.toNat - 48 ≤ es.length then some (.thr (b.toNat - 48) es, r2) else none)
          else some (.mem (b.toNat - 48), c :: r'))
    else none
/-- Parses at most k operands, and the parenthesis behind them. -/
def pL : Nat → Nat → List UInt8 → Option (List Ex × List UInt8)
  | 0, _, _ => none
  | _ + 1, 0, _ => none
  | n + 1, k + 1, r => match pE n r with
      | none => none
      | some (e, r1) => match pT n k r1 with
        | none => none
        | some (es, r2) => some (e :: es, r2)
/-- What follows an operand. -/
def pT : Nat → Nat → List UInt8 → Option (List Ex × List UInt8)
  | 0, _, _ => none
  | _ + 1, _, [] => none
  | n + 1, k, c :: r => if c = 41 then some ([], r) else if c = 44 then pL n k r else none
end

theorem p_sound (n : Nat) :
    (∀ r e r', pE n r = some (e, r') → r = tx e ++ r' ∧ wf e) ∧
    (∀ k r es r', pL n k r = some (es, r') → r = txL es ++ r' ∧ wfL es ∧ es.length ≤ k ∧ 1 ≤ es.length) ∧
    (∀ k r es r', pT n k r = some (es, r') → r = txT es ++ r' ∧ wfL es ∧ es.length ≤ k) := by
  induction n with
  | zero => exact ⟨fun r e r' h => by simp [pE] at h, fun k r es r' h => by simp [pL] at h, fun k r es r' h => by simp [pT] at h⟩
  | succ n ih =>
    obtain ⟨ihE, ihL, ihT⟩ := ih
    refine ⟨?_, ?_, ?_⟩
    · intro r e r' h
      cases r with
      | nil => simp [pE] at h
      | cons b r =>
        cases hb : isD b with
        | false => cases r <;> simp [pE, hb] at h
        | true =>
          obtain ⟨hd, hd1, hd2⟩ := dg_of hb
          cases r with
          | nil =>
            simp only [pE, hb, if_true, Option.some.injEq, Prod.mk.injEq] at h
            obtain ⟨rfl, rfl⟩ := h
            simp [tx, wf, hd, hd1, hd2]
          | cons c r =>
            simp only [pE, hb, if_true] at h
            split at h
            · rename_i hc
              subst hc
              split at h
              · cases h
              · rename_i es r2 hp
                obtain ⟨h1, h2, h3, h4⟩ := ihL _ _ _ _ hp
                split at h
                · rename_i hk
                  simp only [Option.some.injEq, Prod.mk.injEq] at h
                  obtain ⟨rfl, rfl⟩ := h
                  simp [tx, wf, hd, hd1, hk, h2, h3, h1]
                · cases h
            · simp only [Option.some.injEq, Prod.mk.injEq] at h
              obtain ⟨rfl, rfl⟩ := h
              simp [tx, wf, hd, hd1, hd2]
    · intro k r es r' h
      cases k with
      | zero => simp [pL] at h
      | succ k =>
        rw [pL] at h
        split at h
        · cases h
        · rename_i e r1 hp
          split at h
          · cases h
          · rename_i es r2 hp2
            obtain ⟨a1, a2⟩ := ihE _ _ _ hp
            obtain ⟨b1, b2, b3⟩ := ihT _ _ _ _ hp2
            simp only [Option.some.injEq, Prod.mk.injEq] at h
            obtain ⟨rfl, rfl⟩ := h
            refine ⟨by rw [txL_cons, a1, b1]; simp, by simp [wfL, a2, b2], by simp; omega, by simp⟩
    · intro k r es r' h
      cases r with
      | nil => simp [pT] at h
      | cons c r =>
        rw [pT] at h
        split at h
        · rename_i hc
          subst hc
          simp only [Option.some.injEq, Prod.mk.injEq] at h
          obtain ⟨rfl, rfl⟩ := h
          simp [txT, wfL]
        · split at h
          · rename_i hc
            subst hc
            obtain ⟨h1, h2, h3, h4⟩ := ihL _ _ _ _ h
            cases es with
            | nil => simp at h4
            | cons e es => refine ⟨by rw [txT_cons, h1]; rfl, h2, h3⟩
          · cases h

/-- A rest that no threshold opens. -/
def Shut (r : List UInt8) : Prop := ∀ c t, r = c :: t → c ≠ 40
theorem txT_shut (es : List Ex) (r : List UInt8) : Shut (txT es ++ r) := by
  cases es with
  | nil => intro c t h; simp [txT] at h; rw [← h.1]; decide
  | cons e es => intro c t h; rw [txT_cons] at h; simp at h; rw [← h.1]; decide

theorem p_full (n : Nat) :
    (∀ e r, wf e → Shut r → 2 * (tx e).length + 1 ≤ n → pE n (tx e ++ r) = some (e, r)) ∧
    (∀ es k r, wfL es → es ≠ [] → es.length ≤ k → 2 * (txL es).length + 2 ≤ n → pL n k (txL es ++ r) = some (es, r)) ∧
    (∀ es k r, wfL es → es.length ≤ k → 2 * (txT es).length + 1 ≤ n → pT n k (txT es ++ r) = some (es, r)) := by
  induction n with
  | zero => exact ⟨fun e r _ _ h => by omega, fun es k r _ _ _ h => by omega, fun es k r _ _ h => by omega⟩
  | succ n ih =>
    obtain ⟨ihE, ihL, ihT⟩ := ih
    refine ⟨?_, ?_, ?_⟩
    · intro e r hw hs hn
      cases e with
      | mem m =>
        simp only [wf] at hw
        have e1 : (dg m).toNat - 48 = m := by rw [dg_toNat (by omega)]; omega
        cases r with
        | nil => simp [tx, pE, isD_dg hw.1 hw.2, e1]
        | cons c t => simp [tx, pE, isD_dg hw.1 hw.2, e1, hs c t rfl]
      | thr k es =>
        simp only [wf] at hw
        simp only [tx, List.length_cons] at hn
        have e1 : (dg k).toNat - 48 = k := by rw [dg_toNat (by omega)]; omega
        have := ihL es 6 r hw.2.2.2 (by rintro rfl; simp at hw; omega) hw.2.2.1 (by omega)
        simp only [tx, List.cons_append, pE, isD_dg hw.1 (show k ≤ 6 by omega), if_true, e1, this, hw.2.1]
    · intro es k r hw hne hk hn
      cases es with
      | nil => exact absurd rfl hne
      | cons e es =>
        cases k with
        | zero => simp at hk
        | succ k =>
          simp only [wfL] at hw
          simp only [List.length_cons] at hk
          have hl : (txL (e :: es)).length = (tx e).length + (txT es).length := by rw [txL_cons]; simp
          have hl1 : 1 ≤ (txT es).length := by cases es <;> simp [txT]
          have hl2 : 1 ≤ (tx e).length := by cases e <;> simp [tx]
          rw [txL_cons, List.append_assoc, pL, ihE e (txT es ++ r) hw.1 (txT_shut es r) (by omega)]
          simp only
          rw [ihT es k r hw.2 (by omega) (by omega)]
    · intro es k r hw hk hn
      cases es with
      | nil => simp [txT, pT]
      | cons e es =>
        rw [txT_cons] at hn ⊢
        simp only [List.length_cons] at hn
        rw [List.cons_append, pT, if_neg (by decide), if_pos rfl]
        exact ihL _ _ _ hw (by simp) hk (by omega)

theorem tx_pos (e : Ex) : 1 ≤ (tx e).length := by cases e <;> simp [tx]
/-- What a text of an expression is: enough calls, and no rest. -/
def pX (t : List UInt8) : Option Ex := if t.length ≤ 40 then (match pE 81 t with | some (e, []) => some e | _ => none) else none
theorem pX_some {t : List UInt8} {e : Ex} (h : pX t = some e) : t = tx e ∧ wf e ∧ t.length ≤ 40 := by
  unfold pX at h
  split at h
  · rename_i hl
    split at h
    · rename_i e' hp
      injection h with h
      subst h
      obtain ⟨h1, h2⟩ := (p_sound 81).1 _ _ _ hp
      exact ⟨by simpa using h1, h2, hl⟩
    · cases h
  · cases h
theorem pX_tx {e : Ex} (hw : wf e) (hl : (tx e).length ≤ 40) : pX (tx e) = some e := by
  have := (p_full 81).1 e [] hw (fun c t h => by cases h) (by omega)
  rw [List.append_nil] at this
  simp [pX, hl, this]
theorem tx_inj {e e' : Ex} (hw : wf e) (hw' : wf e') (h : tx e = tx e') : e = e' := by
  have h1 := (p_full (2 * (tx e).length + 1)).1 e [] hw (fun c t h => by cases h) (by omega)
  have h2 := (p_full (2 * (tx e).length + 1)).1 e' [] hw' (fun c t h => by cases h) (by rw [h]; omega)
  rw [h] at h1
  rw [h, h1] at h2
  injection h2 with h2
  injection h2
end Go.Proofs.Ytbkdhjmfphhhoaa

/- What trees mean: depth, members, satisfaction, duals; plain facts, no program. -/
namespace Go.Proofs.Ytbkdhjmfphhhoaa

mutual
def dep : Ex → Nat
  | .mem _ => 0
  | .thr _ es => depL es
def depL : List Ex → Nat
  | [] => 0
  | e :: es => max (1 + dep e) (depL es)
end
mutual
def ms : Ex → Nat
  | .mem m => 2 ^ (m - 1)
  | .thr _ es => msL es
def msL : List Ex → Nat
  | [] => 0
  | e :: es => ms e ||| msL es
end
mutual
def sat (s : Nat) : Ex → Bool
  | .mem m => Nat.testBit s (m - 1)
  | .thr k es => decide (k ≤ satL s es)
def satL (s : Nat) : List Ex → Nat
  | [] => 0
  | e :: es => (if sat s e = true then 1 else 0) + satL s es
end
mutual
def dual : Ex → Ex
  | .mem m => .mem m
  | .thr k es => .thr (es.length - k + 1) (dualL es)
def dualL : List Ex → List Ex
  | [] => []
  | e :: es => dual e :: dualL es
end

theorem drop_c {α : Type} {l : List α} {k : Nat} {c : α} (h : l[k]? = some c) : l.drop k = c :: l.drop (k + 1) := by
  obtain ⟨hk, rfl⟩ := List.getElem?_eq_some_iff.1 h
  exact List.drop_eq_getElem_cons hk
mutual
theorem dep_len : (e : Ex) → dep e + 1 ≤ (tx e).length
  | .mem m => by simp [dep, tx]
  | .thr k es => by have := depL_len es; simp only [dep, tx, List.length_cons]; omega
theorem depL_len : (es : List Ex) → depL es ≤ (txL es).length ∧ depL es ≤ (txT es).length
  | [] => by simp [depL]
  | e :: es => by
    have h1 := dep_len e
    have h2 := depL_len es
    rw [txT_cons, txL_cons]
    simp only [depL, List.length_append, List.length_cons]
    omega
end
theorem txT_at : (es : List Ex) → (j : Nat) → (e : Ex) → es[j]? = some e → (tx e).length + 1 ≤ (txT es).length
  | [], j, e, h => by simp at h
  | x :: es, 0, e, h => by simp at h; subst h; rw [txT_cons, txL_cons]; simp
  | x :: es, j + 1, e, h => by
    have := txT_at es j e (by simpa using h)
    rw [txT_cons, txL_cons]; simp; omega
theorem tx_at {k : Nat} {es : List Ex} {j : Nat} {e : Ex} (h : es[j]? = some e) : (tx e).length + 2 ≤ (tx (.thr k es)).length := by
  have h1 := txT_at es j e h
  cases es with
  | nil => simp at h
  | cons x es => rw [txT_cons] at h1; simp only [tx, List.length_cons] at h1 ⊢; omega
theorem wfL_at : (es : List Ex) → wfL es → ∀ (j : Nat) (e : Ex), es[j]? = some e → wf e
  | [], _, j, e, h => by simp at h
  | x :: es, hw, 0, e, h => by simp at h; subst h; simp only [wfL] at hw; exact hw.1
  | x :: es, hw, j + 1, e, h => by simp only [wfL] at hw; exact wfL_at es hw.2 j e (by simpa using h)
theorem wf_at {k : Nat} {es : List Ex} (hw : wf (.thr k es)) {j : Nat} {e : Ex} (h : es[j]? = some e) : wf e := by
  simp only [wf] at hw; exact wfL_at es hw.2.2.2 j e h
theorem wfL_drop (es : List Ex) (hw : wfL es) : ∀ j, wfL (es.drop j) := by
  intro j
  induction j generalizing es with
  | zero => simpa using hw
  | succ j ih => cases es with
    | nil => simpa using hw
    | cons x es => simp only [wfL] at hw; simpa using ih es hw.2
theorem pow_lt {m : Nat} (h : m ≤ 6) : 2 ^ (m - 1) < 64 := by
  have H : ∀ m : Fin 7, 2 ^ (m.val - 1) < 64 := by decide
  exact H ⟨m, by omega⟩
mutual
theorem ms_lt : (e : Ex) → wf e → ms e < 64
  | .mem m, h => by simp only [wf] at h; simp only [ms]; exact pow_lt h.2
  | .thr k es, h => by simp only [wf] at h; simp only [ms]; exact msL_lt es h.2.2.2
theorem msL_lt : (es : List Ex) → wfL es → msL es < 64
  | [], _ => by simp [msL]
  | e :: es, h => by simp only [wfL] at h; simp only [msL]; exact Nat.or_lt_two_pow (n := 6) (ms_lt e h.1) (msL_lt es h.2)
end
theorem satL_le (s : Nat) : (es : List Ex) → satL s es ≤ es.length
  | [] => by simp [satL]
  | e :: es => by have := satL_le s es; simp only [satL, List.length_cons]; split <;> omega
theorem dualL_len : (es : List Ex) → (dualL es).length = es.length
  | [] => rfl
  | e :: es => by simp [dualL, dualL_len es]
theorem dualL_at : (es : List Ex) → (j : Nat) → (e : Ex) → es[j]? = some e → (dualL es)[j]? = some (dual e)
  | [], j, e, h => by simp at h
  | x :: es, 0, e, h => by simp at h; subst h; simp [dualL]
  | x :: es, j + 1, e, h => by simp only [dualL]; simpa using dualL_at es j e (by simpa using h)
theorem mem_one {m : Nat} (h1 : 1 ≤ m) (h6 : m ≤ 6) : mem (2 ^ (m - 1)) = [(m : Int)] := by
  have H : ∀ m : Fin 7, 1 ≤ m.val → mem (2 ^ (m.val - 1)) = [(m.val : Int)] := by decide
  exact H ⟨m, by omega⟩ h1
theorem mem_or {a b : Nat} (ha : a < 64) (hb : b < 64) : union (mem a) (mem b) = mem (a ||| b) := by
  have := union_msk (vld_mem ha) (vld_mem hb)
  rw [msk_mem ha, msk_mem hb] at this
  exact this.symm
theorem has_mem_bit {s m : Nat} (hs : s < 64) (h1 : 1 ≤ m) (h6 : m ≤ 6) : has (mem s) (m : Int) = Nat.testBit s (m - 1) := by
  have H : ∀ s : Fin 64, ∀ m : Fin 7, 1 ≤ m.val → has (mem s.val) (m.val : Int) = Nat.testBit s.val (m.val - 1) := by decide +kernel
  exact H ⟨s, hs⟩ ⟨m, by omega⟩ h1
end Go.Proofs.Ytbkdhjmfphhhoaa

/- Heaps as lists, no program: sifting up and down keeps the members and makes the first the least. -/
namespace Go.Proofs.Ytbkdhjmfphhhoaa

/-- Two elements change places. -/
def swp (a : List Nat) (i j : Nat) : List Nat := (a.set i (a.getD j 0)).set j (a.getD i 0)
theorem swp_len (a : List Nat) (i j : Nat) : (swp a i j).length = a.length := by simp [swp]
theorem swp_at (a : List Nat) {i j : Nat} (hi : i < a.length) (hj : j < a.length) (k : Nat) : (swp a i j).getD k 0 = if k = j then a.getD i 0 else if k = i then a.getD j 0 else a.getD k 0 := by
  unfold swp
  simp only [List.getD_eq_getElem?_getD, List.getElem?_set, List.length_set]
  by_cases h1 : j = k
  · subst h1; simp [hj]
  · have h1' : ¬ k = j := fun h => h1 h.symm
    simp only [h1, h1', if_false]
    by_cases h2 : i = k
    · subst h2; simp [hi]
    · have h2' : ¬ k = i := fun h => h2 h.symm
      simp [h2, h2']
theorem swp_perm (a : List Nat) {i j : Nat} (hi : i < a.length) (hj : j < a.length) : (swp a i j).Perm a := by
  rw [List.perm_iff_count]
  intro x
  unfold swp
  have e1 : a.getD j 0 = a[j] := by simp [hj]
  have e2 : a.getD i 0 = a[i] := by simp [hi]
  rw [e1, e2, List.count_set (by simpa using hj), List.count_set hi, List.getElem_set]
  have c1 : a[i] = x → 0 < a.count x := fun h => List.count_pos_iff.2 (h ▸ List.getElem_mem hi)
  have c2 : a[j] = x → 0 < a.count x := fun h => List.count_pos_iff.2 (h ▸ List.getElem_mem hj)
  by_cases h : i = j
  · subst h
    simp only [if_true, beq_iff_eq]
    split <;> simp_all <;> omega
  · simp only [h, if_false, beq_iff_eq]
    by_cases h1 : a[i] = x <;> by_cases h2 : a[j] = x <;> simp [h1, h2] <;> (try have := c1 h1) <;> (try have := c2 h2) <;> omega
theorem set_lt {a : List Nat} {B : Nat} (h : ∀ x ∈ a, x < B) {k : Nat} (hk : k < a.length) : a.getD k 0 < B := by
  rw [show a.getD k 0 = a[k] by simp [hk]]
  exact h _ (List.getElem_mem hk)

def HeapN (a : List Nat) (n : Nat) : Prop := ∀ k, 0 < k → k < n → a.getD ((k - 1) / 2) 0 ≤ a.getD k 0
theorem HeapN.root {a : List Nat} {n : Nat} (h : HeapN a n) : ∀ k, k < n → a.getD 0 0 ≤ a.getD k 0 := by
  intro k
  induction k using Nat.strongRecOn with
  | _ k ih =>
    intro hk
    rcases Nat.eq_zero_or_pos k with h0 | h0
    · subst h0; exact Nat.le_refl _
    · exact Nat.le_trans (ih ((k - 1) / 2) (by omega) (by omega)) (h k h0 hk)

/-- A heap but for the element j, which may have to rise. -/
def Up (a : List Nat) (j : Nat) : Prop := j < a.length ∧ (∀ k, 0 < k → k < a.length → k ≠ j → a.getD ((k - 1) / 2) 0 ≤ a.getD k 0) ∧
  (0 < j → ∀ c, 0 < c → c < a.length → (c - 1) / 2 = j → a.getD ((j - 1) / 2) 0 ≤ a.getD c 0)
theorem Up.start {a : List Nat} (h : HeapN a a.length) (s : Nat) : Up (a ++ [s]) a.length := by
  refine ⟨by simp, fun k hk hl hne => ?_, fun _ c hc hl hp => ?_⟩
  · have hl' : k < a.length := by simp at hl; omega
    have := h k hk hl'
    simp only [List.getD_eq_getElem?_getD] at this ⊢
    rw [List.getElem?_append_left (by omega), List.getElem?_append_left hl']
    exact this
  · simp at hl; omega
theorem Up.root {a : List Nat} {j : Nat} (h : Up a j) (hj : j = 0) : HeapN a a.length := fun k hk hl => h.2.1 k hk hl (by omega)
theorem Up.stop {a : List Nat} {j : Nat} (h : Up a j) (hn : a.getD ((j - 1) / 2) 0 ≤ a.getD j 0) : HeapN a a.length := by
  intro k hk hl
  by_cases e : k = j
  · subst e; exact hn
  · exact h.2.1 k hk hl e
theorem Up.step {a : List Nat} {j : Nat} (h : Up a j) (hj : 0 < j) (hlt : a.getD j 0 < a.getD ((j - 1) / 2) 0) : Up (swp a ((j - 1) / 2) j) ((j - 1) / 2) := by
  obtain ⟨hl, hh, hc⟩ := h
  have hi : (j - 1) / 2 < a.length := by omega
  have hij : (j - 1) / 2 ≠ j := by omega
  generalize hI : (j - 1) / 2 = i at *
  refine ⟨by rw [swp_len]; exact hi, fun k hk hkl hne => ?_, fun hi0 c hc0 hcl hcp => ?_⟩
  · rw [swp_len] at hkl
    rw [swp_at a hi hl, swp_at a hi hl]
    by_cases e : k = j
    · subst e
      rw [if_pos rfl, hI, if_neg hij, if_pos rfl]; omega
    · rw [if_neg e, if_neg hne]
      have h1 := hh k hk hkl e
      by_cases e1 : (k - 1) / 2 = j
      · rw [if_pos e1]; exact hc hj k hk hkl e1
      · rw [if_neg e1]
        by_cases e2 : (k - 1) / 2 = i
        · rw [if_pos e2]; rw [e2] at h1; omega
        · rw [if_neg e2]; exact h1
  · rw [swp_len] at hcl
    rw [swp_at a hi hl, swp_at a hi hl]
    have hp : ¬ (i - 1) / 2 = j := by omega
    have hp2 : ¬ (i - 1) / 2 = i := by omega
    rw [if_neg hp, if_neg hp2]
    have h1 := hh i hi0 hi (by omega)
    by_cases e : c = j
    · rw [if_pos e]; exact h1
    · rw [if_neg e, if_neg (by omega)]
      have h2 := hh c hc0 hcl e
      rw [hcp] at h2; omega

/-- A heap of n elements but for the element i, which may have to sink. -/
def Dn (a : List Nat) (n i : Nat) : Prop := n ≤ a.length ∧ (∀ k, 0 < k → k < n → (k - 1) / 2 ≠ i → a.getD ((k - 1) / 2) 0 ≤ a.getD k 0) ∧
  (0 < i → ∀ c, 0 < c → c < n → (c - 1) / 2 = i → a.getD ((i - 1) / 2) 0 ≤ a.getD c 0)
theorem Dn.start {a : List Nat} {n : Nat} (h : HeapN a (n + 1)) (hl : a.length = n + 1) : Dn (swp a 0 n) n 0 := by
  refine ⟨by rw [swp_len]; omega, fun k hk hkn hne => ?_, fun h0 => by omega⟩
  rw [swp_at a (by omega) (by omega), swp_at a (by omega) (by omega), if_neg (by omega), if_neg (by omega), if_neg (by omega), if_neg (by omega)]
  exact h k hk (by omega)
theorem Dn.leaf {a : List Nat} {n i : Nat} (h : Dn a n i) (hn : n ≤ 2 * i + 1) : HeapN a n := fun k hk hkn => h.2.1 k hk hkn (by omega)
/-- The lesser child. -/
def Child (a : List Nat) (n i j : Nat) : Prop := (j = 2 * i + 1 ∨ j = 2 * i + 2) ∧ j < n ∧ ∀ c, 0 < c → c < n → (c - 1) / 2 = i → a.getD j 0 ≤ a.getD c 0
theorem child_l {a : List Nat} {n i : Nat} (h : 2 * i + 1 < n) (h2 : ¬ (2 * i + 2 < n ∧ a.getD (2 * i + 2) 0 < a.getD (2 * i + 1) 0)) : Child a n i (2 * i + 1) := by
  refine ⟨.inl rfl, h, fun c hc hcn hp => ?_⟩
  rcases (show c = 2 * i + 1 ∨ c = 2 * i + 2 by omega) with rfl | rfl
  · exact Nat.le_refl _
  · omega
theorem child_r {a : List Nat} {n i : Nat} (h2 : 2 * i + 2 < n) (h3 : a.getD (2 * i + 2) 0 < a.getD (2 * i + 1) 0) : Child a n i (2 * i + 2) := by
  refine ⟨.inr rfl, h2, fun c hc hcn hp => ?_⟩
  rcases (show c = 2 * i + 1 ∨ c = 2 * i + 2 by omega) with rfl | rfl
  · omega
  · exact Nat.le_refl _
theorem Dn.stop {a : List Nat} {n i j : Nat} (h : Dn a n i) (hc : Child a n i j) (hn : a.getD i 0 ≤ a.getD j 0) : HeapN a n := by
  intro k hk hkn
  by_cases e : (k - 1) / 2 = i
  · rw [e]; exact Nat.le_trans hn (hc.2.2 k hk hkn e)
  · exact h.2.1 k hk hkn e
theorem Dn.step {a : List Nat} {n i j : Nat} (h : Dn a n i) (hc : Child a n i j) (hlt : a.getD j 0 < a.getD i 0) : Dn (swp a i j) n j := by
  obtain ⟨hl, hh, hp⟩ := h
  obtain ⟨hj, hjn, hm⟩ := hc
  have hil : i < a.length := by omega
  have hjl : j < a.length := by omega
  refine ⟨by rw [swp_len]; exact hl, fun k hk hkn hne => ?_, fun hj0 c hc0 hcn hcp => ?_⟩
  · rw [swp_at a hil hjl, swp_at a hil hjl, if_neg hne]
    by_cases e : (k - 1) / 2 = i
    · rw [if_pos e]
      by_cases e1 : k = j
      · rw [if_pos e1]; omega
      · rw [if_neg e1, if_neg (by omega)]; exact hm k hk hkn e
    · rw [if_neg e]
      have h1 := hh k hk hkn e
      by_cases e1 : k = j
      · omega
      · rw [if_neg e1]
        by_cases e2 : k = i
        · rw [if_pos e2]
          subst e2
          exact hp hk j (by omega) hjn (by omega)
        · rw [if_neg e2]; exact h1
  · rw [swp_at a hil hjl, swp_at a hil hjl]
    have e1 : (j - 1) / 2 = i := by omega
    rw [e1, if_neg (by omega), if_pos rfl, if_neg (by omega), if_neg (by omega)]
    have := hh c hc0 hcn (by omega)
    rw [hcp] at this; exact this
theorem swp_far (a : List Nat) {i j n k : Nat} (hn : n ≤ a.length) (hi : i < n) (hj : j < n) (hk : n ≤ k) : (swp a i j).getD k 0 = a.getD k 0 := by
  rw [swp_at a (by omega) (by omega), if_neg (by omega), if_neg (by omega)]

/-- What a sift has done: the same members; what lies behind n is as it was. -/
def Sift (a0 a : List Nat) (n : Nat) : Prop := a.length = a0.length ∧ a.Perm a0 ∧ ∀ k, n ≤ k → a.getD k 0 = a0.getD k 0
theorem Sift.refl (a : List Nat) (n : Nat) : Sift a a n := ⟨rfl, List.Perm.refl _, fun _ _ => rfl⟩
theorem Sift.swap {a0 a : List Nat} {n i j : Nat} (h : Sift a0 a n) (hn : n ≤ a0.length) (hi : i < n) (hj : j < n) : Sift a0 (swp a i j) n :=
  ⟨by rw [swp_len]; exact h.1, (swp_perm a (by rw [h.1]; omega) (by rw [h.1]; omega)).trans h.2.1, fun k hk => by rw [swp_far a (by rw [h.1]; exact hn) hi hj hk]; exact h.2.2 k hk⟩
theorem Sift.lt {a0 a : List Nat} {n B : Nat} (h : Sift a0 a n) (h0 : ∀ x ∈ a0, x < B) : ∀ x ∈ a, x < B := fun x hx => h0 x (h.2.1.mem_iff.1 hx)

/-- What a pop hands back. -/
theorem popped {a b : List Nat} {n : Nat} (hl : a.length = n + 1) (hh : HeapN a (n + 1)) (hs : Sift (swp a 0 n) b n) (hb : HeapN b n) :
    b.length = n + 1 ∧ b.getD n 0 = a.getD 0 0 ∧ a.Perm (a.getD 0 0 :: b.take n) ∧ HeapN (b.take n) (b.take n).length ∧ ∀ x ∈ b.take n, a.getD 0 0 ≤ x := by
  have hbl : b.length = n + 1 := by rw [hs.1, swp_len]; exact hl
  have hbn : b.getD n 0 = a.getD 0 0 := by
    rw [hs.2.2 n (Nat.le_refl _), swp_at a (by omega) (by omega), if_pos rfl]
  have hperm : a.Perm (a.getD 0 0 :: b.take n) := by
    have h1 : b.Perm a := hs.2.1.trans (swp_perm a (by omega) (by omega))
    have h2 : b = b.take n ++ [b.getD n 0] := by
      conv => lhs; rw [← List.take_append_drop n b]
      congr 1
      rw [List.drop_eq_getElem_cons (by omega), List.drop_of_length_le (by omega)]
      simp [hbl]
    rw [hbn] at h2
    refine h1.symm.trans ?_
    rw [h2]
    refine List.Perm.trans List.perm_append_comm ?_
    simp [hbl]
  refine ⟨hbl, hbn, hperm, ?_, ?_⟩
  · intro k hk hkl
    have hkn : k < n := by simp at hkl; omega
    have := hb k hk hkn
    simp only [List.getD_eq_getElem?_getD] at this ⊢
    rw [List.getElem?_take_of_lt hkn, List.getElem?_take_of_lt (by omega)]
    exact this
  · intro x hx
    have hxa : x ∈ a := hperm.mem_iff.2 (by simp [hx])
    obtain ⟨k, hk, e⟩ := List.getElem_of_mem hxa
    have := hh.root k (by omega)
    rw [show a.getD k 0 = x by simp [hk, e]] at this
    exact this
end Go.Proofs.Ytbkdhjmfphhhoaa

/- Quorum systems as lists of masks, no program: antichains have at most twenty sets, transversals of transversals, minimal sets of minimal sets. -/
namespace Go.Proofs.Ytbkdhjmfphhhoaa

/-- Twenty chains that hold all 64 sets. -/
def chn (m : Nat) : Nat := ([0, 0, 1, 0, 2, 2, 1, 0, 3, 3, 4, 3, 5, 2, 1, 0, 6, 6, 7, 6, 8, 8, 7, 6, 9, 9, 4, 3, 5, 2, 1, 0, 10, 10, 11, 10, 12, 12, 11, 10, 13, 13, 14, 13, 15, 12, 11, 10, 16, 16, 17, 16, 18, 8, 7, 6, 19, 9, 4, 3, 5, 2, 1, 0] : List Nat).getD m 0
theorem chn_lt {m : Nat} (h : m < 64) : chn m < 20 := by
  have H : ∀ m : Fin 64, chn m.val < 20 := by decide +kernel
  exact H ⟨m, h⟩
theorem chn_sub {a b : Nat} (ha : a < 64) (hb : b < 64) (h : chn a = chn b) : sub a b = true ∨ sub b a = true := by
  have H : ∀ a b : Fin 64, chn a.val = chn b.val → sub a.val b.val = true ∨ sub b.val a.val = true := by decide +kernel
  exact H ⟨a, ha⟩ ⟨b, hb⟩ h
/-- No set of K is within another. -/
def Anti (K : List Nat) : Prop := ∀ q ∈ K, ∀ r ∈ K, sub q r = true → q = r
theorem nodup_len : ∀ (n : Nat) (l : List Nat), l.Nodup → (∀ x ∈ l, x < n) → l.length ≤ n := by
  intro n
  induction n with
  | zero =>
    intro l _ h
    cases l with
    | nil => simp
    | cons x l => exact absurd (h x (by simp)) (by omega)
  | succ n ih =>
    intro l hn h
    have h1 : (l.filter (· != n)).length ≤ n := by
      refine ih _ (hn.filter _) fun x hx => ?_
      obtain ⟨h2, h3⟩ := List.mem_filter.1 hx
      have := h x h2
      simp at h3
      omega
    have h2 : l.length ≤ (l.filter (· != n)).length + 1 := by
      clear ih h h1
      induction l with
      | nil => simp
      | cons x l ih =>
        rw [List.nodup_cons] at hn
        by_cases hx : x = n
        · subst hx
          have : l.filter (· != x) = l := List.filter_eq_self.2 fun y hy => by
            simp
            rintro rfl
            exact hn.1 hy
          simp [this]
        · have := ih hn.2
          simp [hx]
          simpa using this
    omega
theorem anti_len {K : List Nat} (hm : Msk K) (hs : K.Pairwise (· < ·)) (ha : Anti K) : K.length ≤ 20 := by
  have h1 : (K.map chn).Nodup := by
    rw [List.Nodup, List.pairwise_map]
    refine (List.Pairwise.and_mem.1 hs).imp ?_
    rintro a b ⟨h1, h2, h3⟩ e
    rcases chn_sub (hm a h1) (hm b h2) e with h | h
    · have := ha a h1 b h2 h; omega
    · have := ha b h2 a h1 h; omega
  have := nodup_len 20 (K.map chn) h1 fun x hx => by
    obtain ⟨a, h2, rfl⟩ := List.mem_map.1 hx
    exact chn_lt (hm a h2)
  simpa using this
theorem mins_anti {S : List Nat} (hS : Msk S) : Anti (mins S) := by
  intro q hq r hr h
  exact ((mem_mins hS).1 hr).2 q ((mem_mins hS).1 hq).1 h
/-- Below every set of S lies a minimal one. -/
theorem mins_below {S : List Nat} (hS : Msk S) : ∀ (n m : Nat), m ≤ n → m ∈ S → ∃ k ∈ mins S, sub k m = true := by
  intro n
  induction n with
  | zero =>
    intro m hm h
    refine ⟨m, (mem_mins hS).2 ⟨h, fun q hq hs => ?_⟩, sub_refl (hS m h)⟩
    have := sub_le (hS q hq) (hS m h) hs
    omega
  | succ n ih =>
    intro m hm h
    by_cases hmin : ∀ q ∈ S, sub q m = true → q = m
    · exact ⟨m, (mem_mins hS).2 ⟨h, hmin⟩, sub_refl (hS m h)⟩
    · simp only [Classical.not_forall] at hmin
      obtain ⟨q, hq, hs, hne⟩ := hmin
      have := sub_le (hS q hq) (hS m h) hs
      obtain ⟨k, hk, hks⟩ := ih q (by omega) hq
      exact ⟨k, hk, sub_trans (mins_lt S k hk) (hS q hq) (hS m h) hks hs⟩
theorem mins_hasQ {S : List Nat} (hS : Msk S) {m : Nat} (hm : m < 64) : hasQ (mins S) m = hasQ S m := by
  rw [Bool.eq_iff_iff, mem_hasQ, mem_hasQ]
  constructor
  · rintro ⟨q, hq, h⟩
    exact ⟨q, ((mem_mins hS).1 hq).1, h⟩
  · rintro ⟨q, hq, h⟩
    obtain ⟨k, hk, h2⟩ := mins_below hS q q (Nat.le_refl _) hq
    exact ⟨k, hk, sub_trans (mins_lt S k hk) (hS q hq) hm h2 h⟩
/-- What matters of a collection is which sets contain one of it. -/
theorem mins_congr {S T : List Nat} (hS : Msk S) (hT : Msk T) (h : ∀ m, m < 64 → hasQ S m = hasQ T m) : mins S = mins T := by
  refine List.filter_congr fun m hm => ?_
  rw [List.mem_range] at hm
  rw [← minS_eq hS hm, ← minS_eq hT hm, minS, minS, h m hm]
  congr 1
  rw [Bool.eq_iff_iff, List.all_eq_true, List.all_eq_true]
  have key : ∀ x, less m x < 64 := fun x => Nat.lt_of_le_of_lt Nat.and_le_left hm
  constructor
  · intro h2 x hx; rw [← h _ (key x)]; exact h2 x hx
  · intro h2 x hx; rw [h _ (key x)]; exact h2 x hx
theorem mins_same {S T : List Nat} (h : ∀ m, m ∈ S ↔ m ∈ T) : mins S = mins T := by
  refine List.filter_congr fun m _ => ?_
  rw [Bool.eq_iff_iff, minB_iff, minB_iff, h]
  exact ⟨fun ⟨a, b⟩ => ⟨a, fun q hq => b q ((h q).2 hq)⟩, fun ⟨a, b⟩ => ⟨a, fun q hq => b q ((h q).1 hq)⟩⟩
/-- An ascending antichain is its own minimal sets. -/
theorem mins_self {K : List Nat} (hm : Msk K) (hs : K.Pairwise (· < ·)) (ha : Anti K) : mins K = K := by
  refine asc_ext (mins_sorted K) hs fun m => ?_
  rw [mem_mins hm]
  exact ⟨fun h => h.1, fun h => ⟨h, fun q hq hq2 => ha q hq m h hq2⟩⟩
theorem mins_mins {S : List Nat} (hS : Msk S) : mins (mins S) = mins S := mins_self (mins_lt S) (mins_sorted S) (mins_anti hS)

theorem comp_and {a b : Nat} (ha : a < 64) (hb : b < 64) : (a &&& andNot 63 b = 0) ↔ sub a b = true := by
  have H : ∀ a b : Fin 64, (a.val &&& andNot 63 b.val = 0) ↔ sub a.val b.val = true := by decide +kernel
  exact H ⟨a, ha⟩ ⟨b, hb⟩
theorem comp_sub {a b : Nat} (ha : a < 64) (hb : b < 64) : sub a (andNot 63 b) = true ↔ a &&& b = 0 := by
  have H : ∀ a b : Fin 64, (sub a.val (andNot 63 b.val) = true ↔ a.val &&& b.val = 0) := by decide +kernel
  exact H ⟨a, ha⟩ ⟨b, hb⟩
theorem comp_lt (b : Nat) : andNot 63 b < 64 := Nat.lt_of_le_of_lt Nat.and_le_left (by omega)
theorem and_sub {a q s : Nat} (hq : q < 64) (hs : s < 64) (h : sub q s = true) (h0 : a &&& s = 0) : a &&& q = 0 := by
  rw [sub_and hq hs] at h
  rw [← h, Nat.and_comm q s, ← Nat.and_assoc, h0, Nat.zero_and]
theorem hits_iff {K : List Nat} {s : Nat} : hitsQ K s = true ↔ ∀ q ∈ K, q &&& s ≠ 0 := by simp [hitsQ]
/-- The sets that meet every set of K. -/
def trs (K : List Nat) : List Nat := (List.range 64).filter (hitsQ K)
theorem trs_msk (K : List Nat) : Msk (trs K) := fun _ hq => List.mem_range.1 (List.mem_filter.1 hq).1
theorem mem_trs {K : List Nat} {s : Nat} : s ∈ trs K ↔ s < 64 ∧ hitsQ K s = true := by simp [trs]
theorem trs_trs {K : List Nat} (hK : Msk K) {s : Nat} (hs : s < 64) : hitsQ (mins (trs K)) s = hasQ K s := by
  rw [Bool.eq_iff_iff]
  constructor
  · intro h
    rw [hits_iff] at h
    cases hh : hasQ K s
    · exfalso
      have hno : ∀ q ∈ K, sub q s = false := by simpa [hasQ] using hh
      have hc : andNot 63 s ∈ trs K := mem_trs.2 ⟨comp_lt s, hits_iff.2 fun _ hq h0 => by
        rw [comp_and (hK _ hq) hs, hno _ hq] at h0; cases h0⟩
      obtain ⟨k, hk, hks⟩ := mins_below (trs_msk K) _ _ (Nat.le_refl _) hc
      exact h k hk ((comp_sub (mins_lt _ k hk) hs).1 hks)
    · rfl
  · intro h
    obtain ⟨q, hq, hqs⟩ := mem_hasQ.1 h
    refine hits_iff.2 fun t ht h0 => ?_
    have h1 := and_sub (hK q hq) hs hqs h0
    have h2 := (mem_trs.1 ((mem_mins (trs_msk K)).1 ht).1).2
    rw [hits_iff] at h2
    exact h2 q hq (by rw [Nat.and_comm]; exact h1)
theorem hasQ_up {K : List Nat} (hK : Msk K) {a b : Nat} (ha : a < 64) (hb : b < 64) (h : sub a b = true) (h2 : hasQ K a = true) : hasQ K b = true := by
  obtain ⟨q, hq, h3⟩ := mem_hasQ.1 h2
  exact mem_hasQ.2 ⟨q, hq, sub_trans (hK q hq) ha hb h3 h⟩
theorem hasQ_filter {K : List Nat} (hK : Msk K) {m : Nat} (hm : m < 64) : hasQ ((List.range 64).filter (hasQ K)) m = hasQ K m := by
  rw [Bool.eq_iff_iff]
  constructor
  · intro h
    obtain ⟨q, hq, hs⟩ := mem_hasQ.1 h
    obtain ⟨h1, h2⟩ := List.mem_filter.1 hq
    exact hasQ_up hK (List.mem_range.1 h1) hm hs h2
  · intro h
    exact mem_hasQ.2 ⟨m, List.mem_filter.2 ⟨List.mem_range.2 hm, h⟩, sub_refl hm⟩
/-- The transversals of the transversals. -/
theorem trs_twice {K : List Nat} (hm : Msk K) (hs : K.Pairwise (· < ·)) (ha : Anti K) : mins (trs (mins (trs K))) = K := by
  have h1 : trs (mins (trs K)) = (List.range 64).filter (hasQ K) := List.filter_congr fun s hs => trs_trs hm (List.mem_range.1 hs)
  rw [h1, mins_congr (fun _ hq => List.mem_range.1 (List.mem_filter.1 hq).1) hm fun m hm2 => hasQ_filter hm hm2]
  exact mins_self hm hs ha

/-- A quorum system's masks. -/
def Sys (K : List Nat) : Prop := Msk K ∧ K.Pairwise (· < ·) ∧ Anti K ∧ ∀ q ∈ K, 0 < q
theorem fv_sys : ∀ (F : List (List Int)) (K : List Nat) (p : Nat), fv K p F = true → (K ++ msks F).Pairwise (fun a b => sub a b = false) ∨ ¬ K.Pairwise (fun a b => sub a b = false) := by
  intro F
  induction F with
  | nil =>
    intro K p _
    by_cases h : K.Pairwise (fun a b => sub a b = false)
    · left; simpa [msks] using h
    · exact .inr h
  | cons l F ih =>
    intro K p h
    simp only [fv, Bool.and_eq_true, Bool.not_eq_true'] at h
    obtain ⟨⟨⟨h1, h2⟩, h3⟩, h4⟩ := h
    by_cases hK : K.Pairwise (fun a b => sub a b = false)
    · have hK2 : (K ++ [msk l]).Pairwise (fun a b => sub a b = false) := by
        rw [List.pairwise_append]
        refine ⟨hK, by simp, fun a ha b hb => ?_⟩
        simp at hb
        subst hb
        have hno : ∀ q ∈ K, sub q (msk l) = false := by simpa [hasQ] using h3
        exact hno a ha
      rcases ih _ _ h4 with h5 | h5
      · left; simpa [msks] using h5
      · exact absurd hK2 h5
    · exact .inr hK
theorem fv_asc : ∀ (F : List (List Int)) (K : List Nat) (p : Nat), fv K p F = true → (msks F).Pairwise (· < ·) ∧ ∀ q ∈ msks F, p < q := by
  intro F
  induction F with
  | nil => intro K p _; simp [msks]
  | cons l F ih =>
    intro K p h
    simp only [fv, Bool.and_eq_true, Bool.not_eq_true', decide_eq_true_eq] at h
    obtain ⟨⟨⟨h1, h2⟩, h3⟩, h4⟩ := h
    obtain ⟨h5, h6⟩ := ih _ _ h4
    have e : msks (l :: F) = msk l :: msks F := rfl
    rw [e]
    refine ⟨List.pairwise_cons.2 ⟨h6, h5⟩, fun q hq => ?_⟩
    rcases List.mem_cons.1 hq with rfl | hq
    · exact h2
    · have := h6 q hq; omega
theorem famOk_sys {F : List (List Int)} (h : famOk F = true) : Sys (msks F) := by
  have hv := famOk_allV h
  have hm := msks_msk hv
  simp only [famOk, Bool.and_eq_true] at h
  have h1 := fv_asc F [] 0 h.2
  have h2 : (msks F).Pairwise (fun a b => sub a b = false) := by
    rcases fv_sys F [] 0 h.2 with h3 | h3
    · simpa using h3
    · exact absurd List.Pairwise.nil h3
  refine ⟨hm, h1.1, ?_, h1.2⟩
  intro q hq r hr hs
  rcases Nat.lt_trichotomy q r with h3 | h3 | h3
  · exfalso
    obtain ⟨i, hi, ei⟩ := List.getElem_of_mem hq
    obtain ⟨j, hj, ej⟩ := List.getElem_of_mem hr
    have hij : i < j := by
      rcases Nat.lt_trichotomy i j with h4 | h4 | h4
      · exact h4
      · subst h4; omega
      · have := List.pairwise_iff_getElem.1 h1.1 j i hj hi h4; omega
    have := List.pairwise_iff_getElem.1 h2 i j hi hj hij
    rw [ei, ej, hs] at this; cases this
  · exact h3
  · have := sub_le (hm q hq) (hm r hr) hs; omega
theorem sys_fv : ∀ (K P : List Nat) (p : Nat), Msk K → K.Pairwise (· < ·) → Anti (P ++ K) → (∀ q ∈ P, q ≤ p) → (∀ q ∈ K, p < q) → fv P p (mems K) = true := by
  intro K
  induction K with
  | nil => intro P p _ _ _ _ _; rfl
  | cons k K ih =>
    intro P p hm hs ha hP hp
    have e : mems (k :: K) = mem k :: mems K := rfl
    have hk := hm k (by simp)
    rw [List.pairwise_cons] at hs
    rw [e, fv, msk_mem hk, vld_mem hk]
    simp only [Bool.true_and, Bool.and_eq_true, decide_eq_true_eq, Bool.not_eq_true']
    refine ⟨⟨hp k (by simp), ?_⟩, ih (P ++ [k]) k (fun q hq => hm q (by simp [hq])) hs.2 (by simpa using ha) ?_ hs.1⟩
    · rw [Bool.eq_false_iff]
      intro h
      obtain ⟨q, hq, h2⟩ := mem_hasQ.1 h
      have := ha q (by simp [hq]) k (by simp) h2
      have := hP q hq
      have := hp k (by simp)
      omega
    · intro q hq
      rcases List.mem_append.1 hq with h | h
      · have := hP q h; have := hp k (by simp); omega
      · simp at h; omega
theorem sys_famOk {K : List Nat} (h : Sys K) : famOk (mems K) = true := by
  have h1 := anti_len h.1 h.2.1 h.2.2.1
  have h2 := sys_fv K [] 0 h.1 h.2.1 (by simpa using h.2.2.1) (by simp) h.2.2.2
  have h3 : (mems K).length ≤ 20 := by simpa [mems] using h1
  rw [famOk, h2, decide_eq_true h3]
  rfl
theorem mins_sys {S : List Nat} (hS : Msk S) (h0 : 0 ∉ S) : Sys (mins S) :=
  ⟨mins_lt S, mins_sorted S, mins_anti hS, fun q hq => by
    rcases Nat.eq_zero_or_pos q with rfl | h
    · exact absurd ((mem_mins hS).1 hq).1 h0
    · exact h⟩
theorem mins_ne {S : List Nat} (hS : Msk S) {m : Nat} (h : m ∈ S) : mins S ≠ [] := by
  obtain ⟨k, hk, _⟩ := mins_below hS m m (Nat.le_refl _) h
  intro e
  rw [e] at hk
  cases hk
theorem trs_zero {K : List Nat} (h : K ≠ []) : 0 ∉ trs K := by
  intro h0
  have h1 := (mem_trs.1 h0).2
  rw [hits_iff] at h1
  cases K with
  | nil => exact h rfl
  | cons q K => exact h1 q (by simp) (by simp)
theorem trs_all {K : List Nat} (h : Sys K) : 63 ∈ trs K := by
  refine mem_trs.2 ⟨by omega, hits_iff.2 fun q hq h0 => ?_⟩
  have hq1 := h.1 q hq
  have hq2 := h.2.2.2 q hq
  have H : ∀ a : Fin 64, a.val &&& 63 = a.val := by decide +kernel
  have := H ⟨q, hq1⟩
  simp only at this
  omega
end Go.Proofs.Ytbkdhjmfphhhoaa

/- Vote assignments as lists of integers, no program: sums of votes, and the minimal sets with enough of them. -/
namespace Go.Proofs.Ytbkdhjmfphhhoaa

def wOk (w : List Int) : Bool := decide (1 ≤ w.length) && decide (w.length ≤ 6) && w.all fun x => decide (0 ≤ x) && decide (x ≤ 9)
/-- What stands at place j, or 0. -/
def vt (w : List Int) (j : Nat) : Int := w.getD j 0
theorem vt_some {w : List Int} {j : Nat} {x : Int} (h : w[j]? = some x) : vt w j = x := by unfold vt; rw [List.getD_eq_getElem?_getD, h]; rfl
theorem vt_none {w : List Int} {j : Nat} (h : w.length ≤ j) : vt w j = 0 := by unfold vt; rw [List.getD_eq_getElem?_getD, List.getElem?_eq_none h]; rfl
/-- The votes of member x. -/
def wat (w : List Int) (x : Int) : Int := vt w (x.toNat - 1)
def lsum (w l : List Int) : Int := (l.map (wat w)).sum
def wsum (w : List Int) (s : Nat) : Int := lsum w (mem s)
theorem wOk_iff {w : List Int} : wOk w = true ↔ 1 ≤ w.length ∧ w.length ≤ 6 ∧ ∀ x ∈ w, 0 ≤ x ∧ x ≤ 9 := by
  simp [wOk, and_assoc]
theorem wOk_at {w : List Int} (h : wOk w = true) (j : Nat) : 0 ≤ vt w j ∧ vt w j ≤ 9 := by
  cases hx : w[j]? with
  | none => rw [vt_none (List.getElem?_eq_none_iff.1 hx)]; omega
  | some x => rw [vt_some hx]; exact (wOk_iff.1 h).2.2 x (List.mem_of_getElem? hx)
theorem wat_rng {w : List Int} (h : wOk w = true) (x : Int) : 0 ≤ wat w x ∧ wat w x ≤ 9 := wOk_at h _
theorem lsum_nil (w : List Int) : lsum w [] = 0 := rfl
theorem lsum_snoc (w l : List Int) (x : Int) : lsum w (l ++ [x]) = lsum w l + wat w x := by simp [lsum]
theorem lsum_take {w l : List Int} {k : Nat} {x : Int} (h : l[k]? = some x) : lsum w (l.take (k + 1)) = lsum w (l.take k) + wat w x := by
  rw [List.take_add_one, h]
  exact lsum_snoc _ _ _
theorem lsum_rng {w : List Int} (h : wOk w = true) (l : List Int) : 0 ≤ lsum w l ∧ lsum w l ≤ 9 * l.length := by
  induction l with
  | nil => simp [lsum]
  | cons x l ih =>
    have := wat_rng h x
    simp only [lsum, List.map_cons, List.sum_cons, List.length_cons] at ih ⊢
    omega
theorem take_len6 {l : List Int} (hl : l.length ≤ 6) (k : Nat) : (l.take k).length ≤ 6 := Nat.le_trans (List.length_take_le' k l) hl
theorem lsum_rng6 {w l : List Int} (h : wOk w = true) (hl : l.length ≤ 6) (k : Nat) : 0 ≤ lsum w (l.take k) ∧ lsum w (l.take k) ≤ 54 := by
  have := lsum_rng h (l.take k)
  have := take_len6 hl k
  omega
theorem wsum_rng {w : List Int} (h : wOk w = true) (s : Nat) : 0 ≤ wsum w s ∧ wsum w s ≤ 54 := by
  have := lsum_rng h (mem s)
  have := mem_len s
  unfold wsum
  omega
theorem sum_filter (p : Int → Bool) (f : Int → Int) (l : List Int) : ((l.filter p).map f).sum = (l.map fun x => if p x = true then f x else 0).sum := by
  induction l with
  | nil => rfl
  | cons x l ih =>
    cases h : p x
    · rw [List.filter_cons_of_neg (by simp [h]), List.map_cons, List.sum_cons, ih]
      simp [h]
    · rw [List.filter_cons_of_pos h, List.map_cons, List.map_cons, List.sum_cons, List.sum_cons, ih]
      simp [h]
/-- What the member with bit j adds. -/
def tm (w : List Int) (s j : Nat) : Int := if Nat.testBit s j = true then vt w j else 0
theorem wsum_six (w : List Int) (s : Nat) : wsum w s = tm w s 0 + tm w s 1 + tm w s 2 + tm w s 3 + tm w s 4 + tm w s 5 := by
  rw [wsum, lsum, mem, sum_filter]
  show tm w s 0 + (tm w s 1 + (tm w s 2 + (tm w s 3 + (tm w s 4 + (tm w s 5 + 0))))) = _
  omega
theorem tm_rng {w : List Int} (h : wOk w = true) (s j : Nat) : 0 ≤ tm w s j ∧ tm w s j ≤ 9 := by
  unfold tm
  split
  · exact wOk_at h j
  · omega
theorem bit_63 {j : Nat} (h : j < 6) : Nat.testBit 63 j = true := by
  have H : ∀ j : Fin 6, Nat.testBit 63 j.val = true := by decide +kernel
  exact H ⟨j, h⟩
theorem tm_disj {w : List Int} (h : wOk w = true) {a b j : Nat} (hj : j < 6) (h0 : a &&& b = 0) : tm w a j + tm w b j ≤ tm w 63 j := by
  have h1 : (Nat.testBit a j && Nat.testBit b j) = false := by rw [← Nat.testBit_and, h0]; simp
  have := wOk_at h j
  unfold tm
  rw [bit_63 hj]
  cases ha : Nat.testBit a j
  · cases hb : Nat.testBit b j <;> simp <;> omega
  · rw [ha] at h1
    simp at h1
    rw [h1]
    simp
/-- Disjoint sets have no more votes than there are. -/
theorem wsum_disj {w : List Int} (h : wOk w = true) {a b : Nat} (h0 : a &&& b = 0) : wsum w a + wsum w b ≤ wsum w 63 := by
  rw [wsum_six, wsum_six, wsum_six]
  have := tm_disj h (j := 0) (by omega) h0
  have := tm_disj h (j := 1) (by omega) h0
  have := tm_disj h (j := 2) (by omega) h0
  have := tm_disj h (j := 3) (by omega) h0
  have := tm_disj h (j := 4) (by omega) h0
  have := tm_disj h (j := 5) (by omega) h0
  omega
theorem bit_less {m : Nat} (hm : m < 64) {i j : Nat} (hi : i < 6) (hj : j < 6) : Nat.testBit (andNot m (2 ^ i)) j = (Nat.testBit m j && !decide (i = j)) := by
  have H : ∀ m : Fin 64, ∀ i j : Fin 6, Nat.testBit (andNot m.val (2 ^ i.val)) j.val = (Nat.testBit m.val j.val && !decide (i.val = j.val)) := by decide +kernel
  exact H ⟨m, hm⟩ ⟨i, hi⟩ ⟨j, hj⟩
theorem tm_less {w : List Int} {m : Nat} (hm : m < 64) {i j : Nat} (hi : i < 6) (hj : j < 6) : tm w (andNot m (2 ^ i)) j = if i = j then 0 else tm w m j := by
  unfold tm
  rw [bit_less hm hi hj]
  by_cases e : i = j <;> simp [e]
/-- Without member x of the set. -/
theorem wsum_less {w : List Int} {m : Nat} (hm : m < 64) {x : Int} (hx : x ∈ mem m) : wsum w (less m x) = wsum w m - wat w x := by
  obtain ⟨h1, h2⟩ := List.mem_filter.1 hx
  have hx6 : 1 ≤ x ∧ x ≤ 6 := by
    simp at h1
    omega
  have hi : x.toNat - 1 < 6 := by omega
  have hw : wat w x = tm w m (x.toNat - 1) := by unfold wat tm; rw [h2]; simp
  unfold less
  rw [wsum_six, wsum_six, hw]
  generalize x.toNat - 1 = i at *
  rw [tm_less hm hi (by omega), tm_less hm hi (by omega), tm_less hm hi (by omega), tm_less hm hi (by omega), tm_less hm hi (by omega), tm_less hm hi (by omega)]
  have : i = 0 ∨ i = 1 ∨ i = 2 ∨ i = 3 ∨ i = 4 ∨ i = 5 := by omega
  rcases this with rfl | rfl | rfl | rfl | rfl | rfl <;> simp <;> omega
/-- More members, no fewer votes. -/
theorem wsum_mono {w : List Int} (h : wOk w = true) {a b : Nat} (ha : a < 64) (hb : b < 64) (hs : sub a b = true) : wsum w a ≤ wsum w b := by
  rw [sub_and ha hb] at hs
  have key : ∀ j, tm w a j ≤ tm w b j := by
    intro j
    have := wOk_at h j
    unfold tm
    cases h1 : Nat.testBit a j
    · simp; split <;> omega
    · have : Nat.testBit b j = true := by
        rw [← hs, Nat.testBit_and] at h1
        simp at h1
        exact h1.2
      rw [this]
      simp
  rw [wsum_six, wsum_six]
  have := key 0
  have := key 1
  have := key 2
  have := key 3
  have := key 4
  have := key 5
  omega

/-- The members with votes among the first k. -/
def posT (w : List Int) : Nat → Nat
  | 0 => 0
  | k + 1 => if 0 < vt w k then posT w k ||| 2 ^ k else posT w k
theorem posT_bit (w : List Int) (j : Nat) : ∀ k, Nat.testBit (posT w k) j = (decide (j < k) && decide (0 < vt w j)) := by
  intro k
  induction k with
  | zero => simp [posT]
  | succ k ih =>
    unfold posT
    by_cases h : 0 < vt w k
    · rw [if_pos h, Nat.testBit_or, ih, Nat.testBit_two_pow]
      by_cases e : k = j
      · subst e; simp [h]
      · have : (j < k + 1) ↔ j < k := by omega
        simp [e, this]
    · rw [if_neg h, ih]
      by_cases e : k = j
      · subst e; simp [h]
      · have : (j < k + 1) ↔ j < k := by omega
        simp [this]
theorem posT_lt (w : List Int) : ∀ k, k ≤ 6 → posT w k < 64 := by
  intro k
  induction k with
  | zero => intro _; simp [posT]
  | succ k ih =>
    intro hk
    have h1 := ih (by omega)
    unfold posT
    split
    · have H : ∀ a : Fin 64, ∀ k : Fin 6, a.val ||| 2 ^ k.val < 64 := by decide +kernel
      exact H ⟨_, h1⟩ ⟨k, by omega⟩
    · exact h1
/-- The members without votes do not matter. -/
theorem wsum_pos {w : List Int} (h : wOk w = true) (s : Nat) : wsum w (posT w w.length &&& s) = wsum w s := by
  have key : ∀ j, tm w (posT w w.length &&& s) j = tm w s j := by
    intro j
    unfold tm
    rw [Nat.testBit_and, posT_bit]
    cases hb : Nat.testBit s j
    · simp
    · by_cases hj : j < w.length
      · by_cases hp : 0 < vt w j
        · simp only [hj, hp, decide_true, Bool.and_self]
        · have := wOk_at h j
          have e : vt w j = 0 := by omega
          rw [e]
          simp
      · have e : vt w j = 0 := vt_none (by omega)
        rw [e]
        simp
  rw [wsum_six, wsum_six, key, key, key, key, key, key]
/-- The votes that have been read: six numbers. -/
def vts (w : List Int) (k : Nat) : List Int := (List.range 6).map fun j => if j < k then vt w j else 0
theorem vts_at (w : List Int) (k j : Nat) (hj : j < 6) : (vts w k)[j]? = some (if j < k then vt w j else 0) := by
  simp [vts, hj]
theorem vts_len (w : List Int) (k : Nat) : (vts w k).length = 6 := by simp [vts]
theorem vts_set {w : List Int} {k : Nat} {x : Int} (hx : w[k]? = some x) (hk : k < 6) : (vts w k).set k x = vts w (k + 1) := by
  apply List.ext_getElem?
  intro j
  rw [List.getElem?_set]
  by_cases h6 : j < 6
  · rw [vts_at _ _ _ h6, vts_at _ _ _ h6, vts_len]
    have hg : vt w k = x := vt_some hx
    by_cases e : k = j
    · subst e
      simp [hk, hg]
    · have : (j < k + 1) ↔ j < k := by omega
      simp [e, this]
  · rw [if_neg (by omega), List.getElem?_eq_none (by rw [vts_len]; omega), List.getElem?_eq_none (by rw [vts_len]; omega)]
theorem vts_zero {w : List Int} {k : Nat} (hx : w[k]? = some 0) : vts w (k + 1) = vts w k := by
  unfold vts
  refine List.map_congr_left fun j hj => ?_
  by_cases e : j = k
  · subst e
    have hg : vt w j = 0 := vt_some hx
    simp [hg]
  · have : (j < k + 1) ↔ j < k := by omega
    simp [this]

/-- The sets with enough votes. -/
def eno (w : List Int) (n : Int) (s : Nat) : Bool := decide (n ≤ wsum w s)
def enoL (w : List Int) (n : Int) : List Nat := (List.range 64).filter (eno w n)
def wfOk (w : List Int) (n : Int) : Bool := wOk w && decide (1 ≤ n) && decide (n ≤ wsum w 63)
def sumR (w l : List Int) : Int := if wOk w = true ∧ vld l = true then lsum w l else -1
def majR (w : List Int) : Int := if wOk w = true then wsum w 63 / 2 + 1 else 0
theorem enoL_msk (w : List Int) (n : Int) : Msk (enoL w n) := fun _ hq => List.mem_range.1 (List.mem_filter.1 hq).1
theorem mem_enoL {w : List Int} {n : Int} {s : Nat} : s ∈ enoL w n ↔ s < 64 ∧ n ≤ wsum w s := by simp [enoL, eno]
theorem wsum_zero (w : List Int) : wsum w 0 = 0 := by rw [wsum_six]; simp [tm]
theorem enoL_sys {w : List Int} {n : Int} (h : wfOk w n = true) : Sys (mins (enoL w n)) := by
  refine mins_sys (enoL_msk w n) fun h0 => ?_
  simp only [wfOk, Bool.and_eq_true, decide_eq_true_eq] at h
  have := (mem_enoL.1 h0).2
  rw [wsum_zero] at this
  omega
theorem lsum_msk {w l : List Int} (h : vld l = true) : lsum w l = wsum w (msk l) := by rw [wsum, mem_msk h]
/-- Of a minimal set with enough votes: it has them, with one member less it has not, and that member has votes. -/
theorem eno_tight {w : List Int} {n : Int} {m : Nat} {x : Int} (hm : m ∈ mins (enoL w n)) (hx : x ∈ mem m) : n ≤ wsum w m ∧ wsum w (less m x) < n ∧ wat w x ≠ 0 := by
  have hM := enoL_msk w n
  obtain ⟨h1, h2⟩ := (mem_mins hM).1 hm
  obtain ⟨h3, h4⟩ := mem_enoL.1 h1
  have hl64 : less m x < 64 := Nat.lt_of_le_of_lt Nat.and_le_left h3
  have h5 : wsum w (less m x) < n := by
    by_cases h : wsum w (less m x) < n
    · exact h
    · exfalso
      have h6 := less_of hl64 h3 hx (sub_refl hl64)
      exact h6.2 (h2 _ (mem_enoL.2 ⟨hl64, by omega⟩) h6.1)
  refine ⟨h4, h5, fun e => ?_⟩
  rw [wsum_less h3 hx, e] at h5
  omega
/-- Two weighted majorities meet. -/
theorem maj_meet {w : List Int} (hw : wOk w = true) {n : Int} {a b : Nat} (hn : majR w ≤ n) (ha : a ∈ mins (enoL w n)) (hb : b ∈ mins (enoL w n)) : a &&& b ≠ 0 := by
  intro h0
  have hM := enoL_msk w n
  have h1 := (mem_enoL.1 ((mem_mins hM).1 ha).1).2
  have h2 := (mem_enoL.1 ((mem_mins hM).1 hb).1).2
  have h3 := wsum_disj hw h0
  rw [majR, if_pos hw] at hn
  omega
end Go.Proofs.Ytbkdhjmfphhhoaa
