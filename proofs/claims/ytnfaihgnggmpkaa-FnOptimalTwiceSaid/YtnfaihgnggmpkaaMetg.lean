/- Measures of quorum systems as masks, no program. -/
import Derived.Test.YtnfaihgnggmpkaaGa
import Derived.Test.YtnfaihgnggmpkaaGc
import Derived.Test.YtnfaihgnggmpkaaGd
namespace Go.Proofs.Ytnfaihgnggmpkaa

/-- The first n members. -/
def fst (n : Nat) : Nat := 2 ^ n - 1
theorem fst_lt {n : Nat} (h : n ≤ 6) : fst n < 64 := by
  have H : ∀ n : Fin 7, fst n.val < 64 := by decide
  exact H ⟨n, by omega⟩
theorem fst_snoc {k : Nat} (h : k < 6) : mem (fst (k + 1)) = mem (fst k) ++ [((k + 1 : Nat) : Int)] := by
  have H : ∀ k : Fin 6, mem (fst (k.val + 1)) = mem (fst k.val) ++ [((k.val + 1 : Nat) : Int)] := by decide +kernel
  exact H ⟨k, h⟩
theorem fst_len {k : Nat} (h : k ≤ 6) : (mem (fst k)).length = k := by
  have H : ∀ k : Fin 7, (mem (fst k.val)).length = k.val := by decide +kernel
  exact H ⟨k, by omega⟩
theorem last_sub {l : List Int} (hv : vld l = true) {n : Nat} (hn : n ≤ 6) {x : Int} (hx : l[l.length - 1]? = some x) : sub (msk l) (fst n) = decide (x ≤ (n : Int)) := by
  have H : ∀ n : Fin 7, l = [] ∨ sub (msk l) (fst n.val) = decide (l.getD (l.length - 1) 0 ≤ (n.val : Int)) :=
    all_of (P := fun l => ∀ n : Fin 7, l = [] ∨ sub (msk l) (fst n.val) = decide (l.getD (l.length - 1) 0 ≤ (n.val : Int))) (by decide +kernel) hv
  rcases H ⟨n, by omega⟩ with h | h
  · rw [h] at hx; simp at hx
  · rw [h, List.getD_eq_getElem?_getD, hx]; rfl

def fitM (K : List Nat) (N : Nat) : Bool := K.all fun q => sub q N
def fitB (F : List (List Int)) (n : Int) : Bool := transOk F && decide (1 ≤ n) && decide (n ≤ 6) && fitM (msks F) (fst n.toNat)
theorem fitM_take {F : List (List Int)} {k N : Nat} {l : List Int} (h : F[k]? = some l) : fitM (msks (F.take (k + 1))) N = (fitM (msks (F.take k)) N && sub (msk l) N) := by
  rw [take_l h]; simp [fitM, msks]
theorem fitM_no {F : List (List Int)} {k N : Nat} {l : List Int} (h : F[k]? = some l) (h0 : sub (msk l) N = false) : fitM (msks F) N = false := by
  rw [Bool.eq_false_iff]
  intro h1
  have h2 : sub (msk l) N = true := List.all_eq_true.1 h1 _ (List.mem_map.2 ⟨l, List.mem_of_getElem? h, rfl⟩)
  rw [h0] at h2
  cases h2
theorem fitB_parts {F : List (List Int)} {n : Int} : fitB F n = true ↔ transOk F = true ∧ 1 ≤ n ∧ n ≤ 6 ∧ fitM (msks F) (fst n.toNat) = true := by
  simp [fitB, and_assoc]

/-- A set of failed members, among the first ones, that leaves no quorum. -/
def badB (K : List Nat) (N m : Nat) : Bool := sub m N && !hasQ K (andNot N m)
def wst (K : List Nat) (n : Nat) : Nat → Nat
  | 0 => n
  | k + 1 => if badB K (fst n) k = true then min (wst K n k) (mem k).length else wst K n k
theorem wst_le (K : List Nat) (n : Nat) : ∀ k, wst K n k ≤ n
  | 0 => Nat.le_refl _
  | k + 1 => by
    have := wst_le K n k
    unfold wst
    split <;> omega
def resR (F : List (List Int)) (n : Int) : Int := if fitB F n = true then (wst (msks F) n.toNat 64 : Int) - 1 else -1
def avQ (K : List Nat) (N m : Nat) : Bool := sub m N && hasQ K m
def cntQ (K : List Nat) (N : Nat) : Nat → Nat
  | 0 => 0
  | k + 1 => if avQ K N k = true then cntQ K N k + 1 else cntQ K N k
theorem cntQ_le (K : List Nat) (N : Nat) : ∀ k, cntQ K N k ≤ k
  | 0 => Nat.le_refl _
  | k + 1 => by
    have := cntQ_le K N k
    unfold cntQ
    split <;> omega
def avR (F : List (List Int)) (n : Int) : Int := if fitB F n = true then (cntQ (msks F) (fst n.toNat) 64 : Int) else -1

/-- The least length among the first k quorums, and what they have in common. -/
def sml (F : List (List Int)) : Nat → Nat
  | 0 => (F.headD []).length
  | k + 1 => min (sml F k) (F.getD k []).length
def crt (F : List (List Int)) : Nat → List Int
  | 0 => F.headD []
  | k + 1 => inter (crt F k) (F.getD k [])
def smlR (F : List (List Int)) : Int := if transOk F = true then (sml F F.length : Int) else -1
def crtR (F : List (List Int)) : List Int := if transOk F = true then crt F F.length else []
def srvR (F : List (List Int)) (s : List Int) : Bool := famOk F && vld s && hasQ (msks F) (andNot 63 (msk s))
theorem sml_one {F : List (List Int)} : sml F 1 = (F.headD []).length := by
  cases F <;> simp [sml]
theorem sml_succ {F : List (List Int)} {k : Nat} {l : List Int} (h : F[k]? = some l) : sml F (k + 1) = min (sml F k) l.length := by
  simp [sml, List.getD_eq_getElem?_getD, h]
theorem crt_succ {F : List (List Int)} {k : Nat} {l : List Int} (h : F[k]? = some l) : crt F (k + 1) = inter (crt F k) l := by
  simp [crt, List.getD_eq_getElem?_getD, h]
theorem inter_self' {l : List Int} (h : vld l = true) : inter l l = l := all_of (P := fun l => inter l l = l) (by decide +kernel) h
theorem crt_one {F : List (List Int)} (h : transOk F = true) : crt F 1 = F.headD [] := by
  simp only [transOk, Bool.and_eq_true, decide_eq_true_eq] at h
  cases F with
  | nil => simp at h
  | cons l F =>
    have hv := famOk_allV h.1 l (by simp)
    simp [crt, inter_self' hv]
theorem sml_le (F : List (List Int)) (k : Nat) : sml F k ≤ (F.headD []).length := by
  induction k with
  | zero => exact Nat.le_refl _
  | succ k ih => unfold sml; omega
theorem crt_len (F : List (List Int)) (k : Nat) : (crt F k).length ≤ (F.headD []).length := by
  induction k with
  | zero => exact Nat.le_refl _
  | succ k ih => exact Nat.le_trans (inter_len _ _) ih
theorem trans_len {F : List (List Int)} (h : transOk F = true) : F.length ≤ 20 ∧ 0 < F.length := by
  simp only [transOk, Bool.and_eq_true, decide_eq_true_eq] at h
  exact ⟨famOk_len h.1, h.2⟩
/-- Every quorum of a quorum system is a valid set with a member. -/
theorem fam_row {F : List (List Int)} (h : famOk F = true) {k : Nat} {l : List Int} (hx : F[k]? = some l) : vld l = true ∧ 0 < l.length := by
  have hv := famOk_allV h l (List.mem_of_getElem? hx)
  refine ⟨hv, ?_⟩
  have h0 := (famOk_sys h).2.2.2 (msk l) (List.mem_map.2 ⟨l, List.mem_of_getElem? hx, rfl⟩)
  rcases Nat.eq_zero_or_pos l.length with h1 | h1
  · rw [msk_nil h1] at h0; omega
  · exact h1
theorem minus_first {n m : Nat} (hn : n ≤ 6) (hm : m < 64) : both minus (mem (fst n)) (mem m) = mem (andNot (fst n) m) := by
  have h1 := fst_lt hn
  rw [both_t (vld_mem h1) (vld_mem hm)]
  have H : ∀ n : Fin 7, ∀ m : Fin 64, minus (mem (fst n.val)) (mem m.val) = mem (andNot (fst n.val) m.val) := by decide +kernel
  exact H ⟨n, by omega⟩ ⟨m, hm⟩
theorem andNot_lt {a b : Nat} (h : a < 64) : andNot a b < 64 := Nat.lt_of_le_of_lt Nat.and_le_left h
theorem hasL_m {F : List (List Int)} (h : famOk F = true) {m : Nat} (hm : m < 64) : hasL F (mem m) = hasQ (msks F) m := by
  rw [hasL_eq (famOk_allV h) (vld_mem hm), msk_mem hm]
theorem subs_mem {a b : Nat} (ha : a < 64) (hb : b < 64) : subs (mem a) (mem b) = sub a b := by
  rw [subs_sub (vld_mem ha) (vld_mem hb), msk_mem ha, msk_mem hb]
end Go.Proofs.Ytnfaihgnggmpkaa
