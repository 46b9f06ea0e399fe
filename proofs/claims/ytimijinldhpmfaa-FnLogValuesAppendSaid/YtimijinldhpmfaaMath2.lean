/- More plain facts on valid member sets: membership, and the laws of union, intersection and difference. -/
import Derived.Test.YtimijinldhpmfaaMath
namespace Go.Proofs.Ytimijinldhpmfaa

def six : List Int := [1, 2, 3, 4, 5, 6]
def fil (p : Int → Bool) : List Int := six.filter p
theorem fil_congr {p q : Int → Bool} (h : ∀ x ∈ six, p x = q x) : fil p = fil q := List.filter_congr h
theorem has_fil (p : Int → Bool) {x : Int} (hx : x ∈ six) : has (fil p) x = p x := by
  unfold has fil
  rw [Bool.eq_iff_iff]
  simp [hx]
theorem has_out {l : List Int} (h : vld l = true) {x : Int} (hx : x ∉ six) : has l x = false := by
  have H2 : ∀ l ∈ allSets, ∀ y ∈ l, y ∈ six := by decide +kernel
  unfold has
  rw [Bool.eq_false_iff]
  intro hc
  exact hx (H2 l (vld_all h) x (by simpa using hc))
theorem fil_has {a : List Int} (h : vld a = true) : fil (has a) = a := all_of (P := fun a => fil (has a) = a) (by decide +kernel) h
theorem vld_fil (p : Int → Bool) : vld (fil p) = true := by
  unfold fil six vld
  simp only [List.filter]
  cases p 1 <;> cases p 2 <;> cases p 3 <;> cases p 4 <;> cases p 5 <;> cases p 6 <;> decide
theorem union_fil (a b : List Int) : union a b = fil fun x => has a x || has b x := rfl
theorem inter_fil {a : List Int} (ha : vld a = true) (b : List Int) : inter a b = fil fun x => has a x && has b x := by
  unfold inter
  conv => lhs; rw [← fil_has ha]
  unfold fil
  rw [List.filter_filter]
  exact List.filter_congr fun _ _ => Bool.and_comm _ _
theorem minus_fil {a : List Int} (ha : vld a = true) (b : List Int) : minus a b = fil fun x => has a x && !has b x := by
  unfold minus
  conv => lhs; rw [← fil_has ha]
  unfold fil
  rw [List.filter_filter]
  exact List.filter_congr fun _ _ => Bool.and_comm _ _
theorem vld_un (a b : List Int) : vld (union a b) = true := by rw [union_fil]; exact vld_fil _
theorem vld_in {a : List Int} (ha : vld a = true) (b : List Int) : vld (inter a b) = true := by rw [inter_fil ha]; exact vld_fil _
theorem vld_mi {a : List Int} (ha : vld a = true) (b : List Int) : vld (minus a b) = true := by rw [minus_fil ha]; exact vld_fil _
theorem vld_nil : vld [] = true := rfl
theorem has_un {a b : List Int} {x : Int} (hx : x ∈ six) : has (union a b) x = (has a x || has b x) := by rw [union_fil, has_fil _ hx]
theorem has_in {a b : List Int} (ha : vld a = true) {x : Int} (hx : x ∈ six) : has (inter a b) x = (has a x && has b x) := by rw [inter_fil ha, has_fil _ hx]
theorem has_mi {a b : List Int} (ha : vld a = true) {x : Int} (hx : x ∈ six) : has (minus a b) x = (has a x && !has b x) := by rw [minus_fil ha, has_fil _ hx]
theorem has_un' {a b : List Int} (ha : vld a = true) (hb : vld b = true) (x : Int) : has (union a b) x = (has a x || has b x) := by
  by_cases hx : x ∈ six
  · exact has_un hx
  · rw [has_out (vld_un a b) hx, has_out ha hx, has_out hb hx]; rfl
theorem has_in' {a b : List Int} (ha : vld a = true) (x : Int) : has (inter a b) x = (has a x && has b x) := by
  by_cases hx : x ∈ six
  · exact has_in ha hx
  · rw [has_out (vld_in ha b) hx, has_out ha hx]; rfl
theorem has_mi' {a b : List Int} (ha : vld a = true) (x : Int) : has (minus a b) x = (has a x && !has b x) := by
  by_cases hx : x ∈ six
  · exact has_mi ha hx
  · rw [has_out (vld_mi ha b) hx, has_out ha hx]; rfl
theorem ext_has {a b : List Int} (ha : vld a = true) (hb : vld b = true) (h : ∀ x ∈ six, has a x = has b x) : a = b := by
  rw [← fil_has ha, ← fil_has hb]; exact fil_congr h
theorem un_comm (a b : List Int) : union b a = union a b := fil_congr fun _ _ => Bool.or_comm _ _
theorem un_assoc (a b c : List Int) : union (union a b) c = union a (union b c) :=
  fil_congr fun x hx => by rw [has_un hx, has_un hx, Bool.or_assoc]
theorem un_self {a : List Int} (ha : vld a = true) : union a a = a := ext_has (vld_un _ _) ha fun x hx => by rw [has_un hx, Bool.or_self]
theorem un_nil {a : List Int} (ha : vld a = true) : union a [] = a := ext_has (vld_un _ _) ha fun x hx => by rw [has_un hx]; simp [has]
theorem in_comm {a b : List Int} (ha : vld a = true) (hb : vld b = true) : inter b a = inter a b := by
  rw [inter_fil ha, inter_fil hb]; exact fil_congr fun _ _ => Bool.and_comm _ _
theorem in_un {a : List Int} (ha : vld a = true) (b c : List Int) : inter a (union b c) = union (inter a b) (inter a c) := by
  rw [inter_fil ha, union_fil (inter a b)]
  exact fil_congr fun x hx => by rw [has_un hx, has_in ha hx, has_in ha hx, Bool.and_or_distrib_left]
theorem mi_in {a : List Int} (ha : vld a = true) (b : List Int) : inter (minus a b) b = [] := by
  apply ext_has (vld_in (vld_mi ha b) b) vld_nil
  intro x hx
  rw [has_in (vld_mi ha b) hx, has_mi ha hx]
  cases has a x <;> cases has b x <;> simp [has]
theorem mi_un {a : List Int} (ha : vld a = true) (b : List Int) : union (minus a b) (inter a b) = a := by
  apply ext_has (vld_un _ _) ha
  intro x hx
  rw [has_un hx, has_mi ha hx, has_in ha hx]
  cases has a x <;> cases has b x <;> rfl
/-- Whether two lists are the same. -/
def same (l m : List Int) : Bool := decide (l = m)
theorem same_t {l m : List Int} (h : l = m) : same l m = true := by simp [same, h]
theorem same_f {l m : List Int} (h : l ≠ m) : same l m = false := by simp [same, h]
theorem subs_iff {a b : List Int} : subs a b = true ↔ ∀ x ∈ a, has b x = true := by simp [subs]
theorem has_mem {a : List Int} {x : Int} : has a x = true ↔ x ∈ a := by simp [has]
theorem subs_in {a : List Int} (ha : vld a = true) (b : List Int) : same (inter a b) a = subs a b := by
  rw [Bool.eq_iff_iff, subs_iff, same, decide_eq_true_eq]
  constructor
  · intro h x hx
    have h2 := has_in' ha (b := b) x
    rw [h, has_mem.2 hx] at h2
    simpa using h2.symm
  · intro h
    exact List.filter_eq_self.2 h
theorem subs_anti {a b : List Int} (ha : vld a = true) (hb : vld b = true) : (subs a b && subs b a) = same a b := by
  rw [Bool.eq_iff_iff, Bool.and_eq_true, subs_iff, subs_iff, same, decide_eq_true_eq]
  constructor
  · rintro ⟨h1, h2⟩
    apply ext_has ha hb
    intro x _
    rw [Bool.eq_iff_iff, has_mem, has_mem]
    exact ⟨fun h => has_mem.1 (h1 x h), fun h => has_mem.1 (h2 x h)⟩
  · rintro rfl
    exact ⟨fun x h => has_mem.2 h, fun x h => has_mem.2 h⟩
theorem subs_trans {a b c : List Int} (h1 : subs a b = true) (h2 : subs b c = true) : subs a c = true :=
  subs_iff.2 fun x hx => subs_iff.1 h2 x (has_mem.1 (subs_iff.1 h1 x hx))
theorem msk_inj {a b : List Int} (ha : vld a = true) (hb : vld b = true) (h : msk a = msk b) : a = b := by rw [← mem_msk ha, ← mem_msk hb, h]
theorem msk_mem {m : Nat} (h : m < 64) : msk (mem m) = m := by
  have H : ∀ m : Fin 64, msk (mem m.val) = m.val := by decide +kernel
  exact H ⟨m, h⟩
theorem msk_order {a b : List Int} (ha : vld a = true) (hb : vld b = true) (h : subs a b = true) : (msk a : Int) ≤ msk b ∧ (msk (minus b a) : Int) = msk b - msk a :=
  pair_of (P := fun a b => subs a b = true → (msk a : Int) ≤ msk b ∧ (msk (minus b a) : Int) = msk b - msk a) (by decide +kernel) ha hb h
/-- How often a number stands among the first k. -/
def cnt (l : List Int) (x : Int) (k : Nat) : Nat := ((l.take k).filter fun y => y == x).length
theorem cnt_zero (l : List Int) (x : Int) : cnt l x 0 = 0 := by simp [cnt]
theorem cnt_yes {l : List Int} {x y : Int} {k : Nat} (h : l[k]? = some y) (e : (y == x) = true) : cnt l x (k + 1) = cnt l x k + 1 := by
  simp [cnt, List.take_add_one, h, List.filter_append, e]
theorem cnt_no {l : List Int} {x y : Int} {k : Nat} (h : l[k]? = some y) (e : (y == x) = false) : cnt l x (k + 1) = cnt l x k := by
  simp [cnt, List.take_add_one, h, List.filter_append, e]
theorem cnt_le (l : List Int) (x : Int) (k : Nat) : cnt l x k ≤ k := Nat.le_trans (List.length_filter_le _ _) (List.length_take_le _ _)
theorem cnt_all {l : List Int} (h : vld l = true) (x : Int) : cnt l x l.length ≤ 1 ∧ has l x = (((cnt l x l.length : Nat) : Int) == 1) := by
  by_cases hx : x ∈ six
  · have H : ∀ l ∈ allSets, ∀ x ∈ six, cnt l x l.length ≤ 1 ∧ has l x = (((cnt l x l.length : Nat) : Int) == 1) := by decide +kernel
    exact H l (vld_all h) x hx
  · have h0 : cnt l x l.length = 0 := by
      have := has_out h hx
      simp [has] at this
      simp only [cnt, List.take_length]
      rw [List.length_eq_zero_iff, List.filter_eq_nil_iff]
      intro y hy e
      exact this (by rw [← eq_of_beq e]; exact hy)
    rw [h0, has_out h hx]
    exact ⟨by omega, rfl⟩
theorem bothN_len (a b : List Int) (h : a.length ≤ 7) : (both minus a b).length ≤ 7 := by
  unfold both; split
  · exact Nat.le_trans (minus_len a b) h
  · simp
theorem bigU (a b : List Int) : (both union a b).length ≤ 1048576 := by
  have := both_len (f := union) (fun a b _ => union_len a b) a b
  omega
theorem bigI {a : List Int} (b : List Int) (h : a.length ≤ 1048576) : (both inter a b).length ≤ 1048576 := by
  unfold both; split
  · exact Nat.le_trans (inter_len a b) h
  · simp
theorem bigN {a : List Int} (b : List Int) (h : a.length ≤ 1048576) : (both minus a b).length ≤ 1048576 := by
  unfold both; split
  · exact Nat.le_trans (minus_len a b) h
  · simp
theorem bigM (m : Nat) : (mem m).length ≤ 1048576 := by have := mem_len m; omega
section
variable {a b c : List Int} (ha : vld a = true) (hb : vld b = true) (hc : vld c = true)
include ha hb
theorem bv_un : vld (both union a b) = true := by rw [both_t ha hb]; exact vld_un a b
theorem bv_in : vld (both inter a b) = true := by rw [both_t ha hb]; exact vld_in ha b
theorem bv_mi : vld (both minus a b) = true := by rw [both_t ha hb]; exact vld_mi ha b
theorem hasR_un (x : Int) : hasR (both union a b) x = (hasR a x || hasR b x) := by
  unfold hasR; rw [bv_un ha hb, ha, hb, both_t ha hb]; simpa using has_un' ha hb x
theorem hasR_in (x : Int) : hasR (both inter a b) x = (hasR a x && hasR b x) := by
  unfold hasR; rw [bv_in ha hb, ha, hb, both_t ha hb]; simpa using has_in' ha x
theorem hasR_mi (x : Int) : hasR (both minus a b) x = (hasR a x && !hasR b x) := by
  unfold hasR; rw [bv_mi ha hb, ha, hb, both_t ha hb]; simpa using has_mi' ha x
theorem same_uc : same (both union b a) (both union a b) = true := same_t (by rw [both_t ha hb, both_t hb ha]; exact un_comm a b)
theorem same_ic : same (both inter b a) (both inter a b) = true := same_t (by rw [both_t ha hb, both_t hb ha]; exact in_comm ha hb)
theorem len_mi : (both inter (both minus a b) b).length = 0 := by
  rw [both_t (bv_mi ha hb) hb, both_t ha hb, mi_in ha b]; rfl
theorem same_mu : same (both union (both minus a b) (both inter a b)) a = true :=
  same_t (by rw [both_t (bv_mi ha hb) (bv_in ha hb), both_t ha hb, both_t ha hb]; exact mi_un ha b)
theorem subsR_vv : subsR a b = subs a b := by simp [subsR, ha, hb]
theorem same_si : same (both inter a b) a = subsR a b := by rw [both_t ha hb, subsR_vv ha hb]; exact subs_in ha b
theorem same_ss : same a b = (subsR a b && subsR b a) := by rw [subsR_vv ha hb, subsR_vv hb ha]; exact (subs_anti ha hb).symm
theorem mask_eq : (mskR a == mskR b) = same a b := by
  rw [Bool.eq_iff_iff, same, decide_eq_true_eq, beq_iff_eq]
  simp only [mskR, ha, hb, if_true]
  exact ⟨fun h => msk_inj ha hb (by omega), fun h => by rw [h]⟩
include hc
theorem same_ua : same (both union (both union a b) c) (both union a (both union b c)) = true :=
  same_t (by rw [both_t (bv_un ha hb) hc, both_t ha (bv_un hb hc), both_t ha hb, both_t hb hc]; exact un_assoc a b c)
theorem same_id : same (both inter a (both union b c)) (both union (both inter a b) (both inter a c)) = true :=
  same_t (by rw [both_t ha (bv_un hb hc), both_t (bv_in ha hb) (bv_in ha hc), both_t ha hb, both_t hb hc, both_t ha hc]; exact in_un ha b c)
end
theorem same_us {a : List Int} (ha : vld a = true) : same (both union a a) a = true := same_t (by rw [both_t ha ha]; exact un_self ha)
theorem same_un {a : List Int} (ha : vld a = true) : same (both union a []) a = true := same_t (by rw [both_t ha vld_nil]; exact un_nil ha)
theorem subsR_v {a b : List Int} (h : subsR a b = true) : vld a = true ∧ vld b = true := by simp [subsR] at h; exact ⟨h.1.1, h.1.2⟩
theorem subsR_nil {a : List Int} (ha : vld a = true) : subsR [] a = true := by simp [subsR, ha, vld_nil, subs]
theorem subsR_trans {a b c : List Int} (h1 : subsR a b = true) (h2 : subsR b c = true) : subsR a c = true := by
  have ⟨ha, hb⟩ := subsR_v h1
  have ⟨_, hc⟩ := subsR_v h2
  rw [subsR_vv ha hc]; rw [subsR_vv ha hb] at h1; rw [subsR_vv hb hc] at h2
  exact subs_trans h1 h2
theorem mskR_t {a : List Int} (ha : vld a = true) : mskR a = (msk a : Int) := by simp [mskR, ha]
theorem mskR_f {a : List Int} (ha : vld a = false) : mskR a = -1 := by simp [mskR, ha]
theorem mskR_rng (l : List Int) : -1 ≤ mskR l ∧ mskR l ≤ 63 := by
  unfold mskR
  split
  · rename_i h; have := msk_lt h; omega
  · omega
theorem mask_order {a b : List Int} (h : subsR a b = true) : mskR a ≤ mskR b ∧ mskR (both minus b a) = mskR b - mskR a := by
  have ⟨ha, hb⟩ := subsR_v h
  rw [subsR_vv ha hb] at h
  rw [mskR_t ha, mskR_t hb, mskR_t (bv_mi hb ha), both_t hb ha]
  exact msk_order ha hb h
theorem memR_msk {a : List Int} (ha : vld a = true) : memR (mskR a) = a ∧ memOk (mskR a) = true := by
  have h := msk_lt ha
  rw [mskR_t ha]
  refine ⟨?_, by simp [memOk]; omega⟩
  unfold memR; rw [if_pos ⟨by omega, by omega⟩]
  exact mem_msk ha
theorem mskR_memR {m : Int} (h0 : 0 ≤ m) (h1 : m < 64) : mskR (memR m) = m ∧ vld (memR m) = true ∧ memOk m = true := by
  obtain ⟨n, rfl⟩ := Int.eq_ofNat_of_zero_le h0
  have hn : n < 64 := by omega
  have e : memR (n : Int) = mem n := by unfold memR; rw [if_pos ⟨by omega, by omega⟩]; rfl
  refine ⟨?_, by rw [e]; exact vld_mem hn, by simp [memOk]; omega⟩
  rw [e, mskR_t (vld_mem hn), msk_mem hn]
theorem memOk_f {m : Int} (h : ¬ (0 ≤ m ∧ m < 64)) : memOk m = false := by simp [memOk]; omega
end Go.Proofs.Ytimijinldhpmfaa
