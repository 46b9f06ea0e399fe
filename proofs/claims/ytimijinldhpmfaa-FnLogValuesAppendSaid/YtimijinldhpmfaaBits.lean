/- The bit sets of the program by their contracts. -/
import Derived.Test.YtimijinldhpmfaaCore
namespace Go.Proofs.Ytimijinldhpmfaa
open Go.RowKit

theorem or_u8 {s : Nat} {x : Int} (hs : s < 64) (h1 : 1 ≤ x) (h2 : x ≤ 6) : bits .or .u8 (s : Int) (2 ^ (x.toNat - 1) % 256) = ((s ||| 2 ^ (x.toNat - 1) : Nat) : Int) ∧ (s ||| 2 ^ (x.toNat - 1)) < 64 := by
  have H : ∀ s : Fin 64, ∀ n : Fin 6, bits .or .u8 (s.val : Int) (2 ^ n.val % 256) = ((s.val ||| 2 ^ n.val : Nat) : Int) ∧ (s.val ||| 2 ^ n.val) < 64 := by decide +kernel
  exact H ⟨s, hs⟩ ⟨x.toNat - 1, by omega⟩
theorem and_u8 {s : Nat} {x : Int} (hs : s < 64) (h1 : 1 ≤ x) (h2 : x ≤ 6) : (bits .and .u8 ((s : Int) / 2 ^ (x.toNat - 1)) 1 == 1) = Nat.testBit s (x.toNat - 1) := by
  have H : ∀ s : Fin 64, ∀ n : Fin 6, (bits .and .u8 ((s.val : Int) / 2 ^ n.val) 1 == 1) = Nat.testBit s.val n.val := by decide +kernel
  exact H ⟨s, hs⟩ ⟨x.toNat - 1, by omega⟩
theorem ret_int {k : IntKind} {a b : Int} (h : a = b) : Ending.returned (.int k a) = .returned (.int k b) := by rw [h]
theorem ret_bool {a b : Bool} (h : a = b) : Ending.returned (.bool a) = .returned (.bool b) := by rw [h]

theorem drop_at {l : List Int} {k : Nat} {x : Int} (h : l[k]? = some x) : l.drop k = x :: l.drop (k + 1) := by
  obtain ⟨hk, rfl⟩ := List.getElem?_eq_some_iff.1 h
  exact List.drop_eq_getElem_cons hk

/-- The members below k. -/
def memTo (s k : Nat) : List Int := ((List.range (k - 1)).map fun i => ((i + 1 : Nat) : Int)).filter fun x => Nat.testBit s (x.toNat - 1)
theorem memTo_yes {s k : Nat} (hk : 1 ≤ k) (h : Nat.testBit s (k - 1) = true) : memTo s (k + 1) = memTo s k ++ [(k : Int)] := by
  obtain ⟨j, rfl⟩ : ∃ j, k = j + 1 := ⟨k - 1, by omega⟩
  simp only [Nat.add_sub_cancel] at h
  have e : (((j + 1 : Nat) : Int)).toNat - 1 = j := by omega
  simp only [memTo, Nat.add_sub_cancel, List.range_succ, List.map_append, List.map_cons, List.map_nil, List.filter_append, List.filter_cons, e, h, if_true, List.filter_nil]
theorem memTo_no {s k : Nat} (hk : 1 ≤ k) (h : Nat.testBit s (k - 1) = false) : memTo s (k + 1) = memTo s k := by
  obtain ⟨j, rfl⟩ : ∃ j, k = j + 1 := ⟨k - 1, by omega⟩
  simp only [Nat.add_sub_cancel] at h
  have e : (((j + 1 : Nat) : Int)).toNat - 1 = j := by omega
  simp [memTo, List.range_succ, List.filter_append, h]
theorem memTo_len (s k : Nat) : (memTo s k).length ≤ k - 1 := by
  refine Nat.le_trans (List.length_filter_le _ _) ?_
  simp
theorem memTo_all (s : Nat) : memTo s 7 = mem s := rfl

/-- A result in new memory: the slice reads as l, its row is the call's own. -/
def New (w : World) (l : List Int) (e : Ending) (w' : World) : Prop :=
  ∃ A c, e = .returned (.slice A l.length c) ∧ w'.ownsRow w.heap.size 3 1 (.slice A l.length c) l.length (l.map (Value.int .i64)) ∧ Below w.heap.size w w'
theorem own_slice {w : World} {base : Nat} {e : TypeId} {n : Nat} {v : Value} {xs : List Value} (h : w.ownsRow base e 1 v n xs) : ∃ A c, v = .slice A n c := by
  rcases h.2 with ⟨rfl, rfl⟩ | ⟨g, cap, cur, rfl, _⟩
  · exact ⟨_, _, rfl⟩
  · exact ⟨_, _, rfl⟩
theorem New.mk {w w' : World} {l : List Int} {v : Value} (h : w'.ownsRow w.heap.size 3 1 v l.length (l.map (Value.int .i64))) (hb : Below w.heap.size w w') : New w l (.returned v) w' := by
  obtain ⟨A, c, rfl⟩ := own_slice h
  exact ⟨A, c, rfl, h, hb⟩
theorem own_base {w : World} {base base' : Nat} {e : TypeId} {size n : Nat} {v : Value} {xs : List Value} (h : w.ownsRow base e size v n xs) (hb : base' ≤ base) : w.ownsRow base' e size v n xs := by
  refine ⟨h.1, ?_⟩
  rcases h.2 with h0 | ⟨g, cap, cur, hv, hg, rest⟩
  · exact .inl h0
  · exact .inr ⟨g, cap, cur, hv, by omega, rest⟩
theorem New.later {w w1 w2 : World} {l : List Int} {e : Ending} (hb : Below w.heap.size w w1) (h : New w1 l e w2) : New w l e w2 := by
  obtain ⟨A, c, he, ho, hb2⟩ := h
  exact ⟨A, c, he, own_base ho hb.size, below_step hb hb2⟩
theorem New.nil {w w' : World} (hb : Below w.heap.size w w') : New w [] (.returned (.slice none 0 0)) w' := ⟨none, 0, rfl, World.ownsRow_nil _ _ _ _, hb⟩
theorem New.made {w w1 : World} (hb : Below w.heap.size w w1) : New w [] (.returned (.slice (some ⟨w1.heap.size, 0, none⟩) 0 0)) (w1.alloc (.cells #[] 3)) :=
  ⟨_, 0, rfl, World.ownsRow_made w1 #[] 0 hb.size (Nat.zero_le _) rfl, hb.alloc hb.size _⟩
/-- A slice in new memory and true; or false and nothing. -/
def New2 (w : World) (l : List Int) (b : Bool) (e : Ending) (w' : World) : Prop :=
  ∃ A c, e = .returned (.tuple #[.slice A l.length c, .bool b]) ∧ w'.ownsRow w.heap.size 3 1 (.slice A l.length c) l.length (l.map (Value.int .i64)) ∧ Below w.heap.size w w'
/-- The numbers 1 to k - 1 that p holds of. -/
def upTo (p : Int → Bool) (k : Nat) : List Int := ((List.range (k - 1)).map fun i => ((i + 1 : Nat) : Int)).filter p
theorem upTo_yes {p : Int → Bool} {k : Nat} (hk : 1 ≤ k) (h : p (k : Int) = true) : upTo p (k + 1) = upTo p k ++ [(k : Int)] := by
  obtain ⟨j, rfl⟩ : ∃ j, k = j + 1 := ⟨k - 1, by omega⟩
  simp only [upTo, Nat.add_sub_cancel, List.range_succ, List.map_append, List.map_cons, List.map_nil, List.filter_append, List.filter_cons, h, if_true, List.filter_nil]
theorem upTo_no {p : Int → Bool} {k : Nat} (hk : 1 ≤ k) (h : p (k : Int) = false) : upTo p (k + 1) = upTo p k := by
  obtain ⟨j, rfl⟩ : ∃ j, k = j + 1 := ⟨k - 1, by omega⟩
  simp only [upTo, Nat.add_sub_cancel, List.range_succ, List.map_append, List.map_cons, List.map_nil, List.filter_append, List.filter_cons, h, List.filter_nil, List.append_nil, Bool.false_eq_true, if_false]
theorem upTo_len (p : Int → Bool) (k : Nat) : (upTo p k).length ≤ k - 1 := by
  refine Nat.le_trans (List.length_filter_le _ _) ?_
  simp
/-- The first k elements that p holds of. -/
def takeF (p : Int → Bool) (l : List Int) (k : Nat) : List Int := (l.take k).filter p
theorem takeF_yes {p : Int → Bool} {l : List Int} {k : Nat} {x : Int} (hx : l[k]? = some x) (h : p x = true) : takeF p l (k + 1) = takeF p l k ++ [x] := by
  simp [takeF, List.take_add_one, hx, List.filter_append, h]
theorem takeF_no {p : Int → Bool} {l : List Int} {k : Nat} {x : Int} (hx : l[k]? = some x) (h : p x = false) : takeF p l (k + 1) = takeF p l k := by
  simp [takeF, List.take_add_one, hx, List.filter_append, h]
theorem takeF_len (p : Int → Bool) (l : List Int) (k : Nat) : (takeF p l k).length ≤ k := Nat.le_trans (List.length_filter_le _ _) (List.length_take_le _ _)
theorem takeF_all (p : Int → Bool) (l : List Int) : takeF p l l.length = l.filter p := by simp [takeF]
/-- Behind an append of one number. -/
theorem app_one {w wr w1 : World} {v v' : Value} {o : Obj} {l : List Int} {x : Int} (hown : wr.ownsRow w.heap.size 3 1 v l.length (l.map (Value.int .i64))) (hb : Below w.heap.size w wr)
    (hown' : w1.ownsRow w.heap.size 3 1 v' (l.length + 1) (l.map (Value.int .i64) ++ [.int .i64 x])) (hg : (wr.alloc o).grownBy w1 v.ownBlock) :
    w1.ownsRow w.heap.size 3 1 v' (l ++ [x]).length ((l ++ [x]).map (Value.int .i64)) ∧ Below w.heap.size w w1 :=
  ⟨by simpa using hown', (hb.alloc hb.size o).grown hg (by have := hb.size; simp; omega) (fun k hk => (hown.lt k hk).1)⟩

end Go.Proofs.Ytimijinldhpmfaa
