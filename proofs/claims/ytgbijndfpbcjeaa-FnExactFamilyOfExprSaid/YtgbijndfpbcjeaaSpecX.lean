/- The model's functions of expressions by their contracts. -/
import Derived.Test.YtgbijndfpbcjeaaVal
import Derived.Test.YtgbijndfpbcjeaaSem
import Derived.Test.YtgbijndfpbcjeaaSpecU
namespace Go.Proofs.Ytgbijndfpbcjeaa
open Go.RowKit

/-- The text of a tree as the program holds it. -/
def bx (e : Ex) : ByteArray := ⟨(tx e).toArray⟩
theorem bx_list (e : Ex) : (bx e).data.toList = tx e := by simp [bx]
theorem bx_size (e : Ex) : (bx e).size = (tx e).length := by show (tx e).toArray.size = _; simp
theorem bx_of {T : ByteArray} {x : Ex} (h : pT0 T = some x) : T = bx x ∧ wf x ∧ (tx x).length ≤ 40 := by
  obtain ⟨h1, h2, h3⟩ := pX_some h
  refine ⟨?_, h2, by rw [← h1]; exact h3⟩
  apply ByteArray.ext
  apply Array.toList_inj.1
  rw [h1, bx_list]
theorem ext_of {T : ByteArray} {x : Ex} (h : T.data.toList = tx x) : T = bx x := by
  apply ByteArray.ext
  apply Array.toList_inj.1
  rw [h, bx_list]

/-- The slice at A reads as the texts of the trees. -/
def SL (w : World) (A : Option Addr) (es : List Ex) : Prop :=
  es = [] ∨ ∃ b off, A = some ⟨b, off, none⟩ ∧ b < w.heap.size ∧ ∀ j x, es[j]? = some x → w.cell? ⟨b, off + j, none⟩ = some (.string (bx x))
theorem SL.at_ {w : World} {A : Option Addr} {es : List Ex} {k : Nat} (h : SL w A es) (hk : k < es.length) :
    ∃ b off x, A = some ⟨b, off, none⟩ ∧ es[k]? = some x ∧ w.cell? ⟨b, off + k, none⟩ = some (.string (bx x)) := by
  rcases h with rfl | ⟨b, off, rfl, _, hc⟩
  · simp at hk
  · exact ⟨b, off, es[k], rfl, List.getElem?_eq_getElem hk, hc k _ (List.getElem?_eq_getElem hk)⟩
theorem SL.below {w w' : World} {A : Option Addr} {es : List Ex} (h : SL w A es) (hb : Below w.heap.size w w') : SL w' A es := by
  rcases h with rfl | ⟨b, off, rfl, hlt, hc⟩
  · exact .inl rfl
  · exact .inr ⟨b, off, rfl, Nat.lt_of_lt_of_le hlt hb.size, fun j x hx => (hb.cell (p := ⟨b, off + j, none⟩) hlt).trans (hc j x hx)⟩
theorem SL.of_own {w : World} {base : Nat} {A : Option Addr} {n c : Nat} {es : List Ex} (h : w.ownsRow base 9 1 (.slice A n c) n (es.map fun e => Value.string (bx e))) : SL w A es := by
  rcases h.2 with ⟨_, h0⟩ | ⟨g, cap, cur, hv, hb, hg, _⟩
  · left; exact List.eq_nil_of_length_eq_zero (by have := h.1; simp at this; omega)
  · right
    injection hv with hA
    subst hA
    refine ⟨g, 0, rfl, (Array.getElem?_eq_some_iff.1 hg).1, fun j x hx => ?_⟩
    have := h.cells (g := g) rfl j (.string (bx x)) (by simp [hx])
    rw [Addr.add_lit] at this
    exact this
theorem text_info : (Try.prog.info? 9).map (fun i => (i.zero, i.size, i.bytes)) = some (some (.string ⟨#[]⟩), 1, 16) := by kernel_rfl

/-- Operands as a row of texts in new memory. -/
def Parts (w : World) (es : List Ex) (e : Ending) (w' : World) : Prop :=
  ∃ A c, e = .returned (.slice A es.length c) ∧ SL w' A es ∧ Below w.heap.size w w'

/-- The scan of operands stands at place p behind j of them. -/
def At (l : List UInt8) (es : List Ex) (p j : Nat) : Prop :=
  (j < es.length → ∃ c, l[p]? = some c ∧ c.toNat ≠ 41 ∧ l.drop (p + 1) = txL (es.drop j)) ∧ (j = es.length → l[p]? = some 41)
theorem At.start {k : Nat} {es : List Ex} (h : 1 ≤ es.length) : At (tx (.thr k es)) es 1 0 := by
  refine ⟨fun _ => ⟨40, by simp [tx], by decide, by simp [tx]⟩, fun h0 => by omega⟩
theorem At.step {l : List UInt8} {es : List Ex} {p j : Nat} {e : Ex} (h : At l es p j) (he : es[j]? = some e) (hw : wfL es) (n : Nat) (hn : 2 * l.length + 1 ≤ n) :
    pE n (l.drop (p + 1)) = some (e, txT (es.drop (j + 1))) ∧ p + 1 + (tx e).length + (txT (es.drop (j + 1))).length = l.length ∧
      (l.drop (p + 1)).take (tx e).length = tx e ∧ At l es (l.length - (txT (es.drop (j + 1))).length) (j + 1) := by
  have hj := (List.getElem?_eq_some_iff.1 he).1
  obtain ⟨c, hc, hne, hd⟩ := h.1 hj
  have hp := (List.getElem?_eq_some_iff.1 hc).1
  rw [drop_c he, txL_cons] at hd
  have hlen := congrArg List.length hd
  simp only [List.length_drop, List.length_append] at hlen
  have hwe := wfL_at es hw j e he
  have hd2 : l.drop (p + 1 + (tx e).length) = txT (es.drop (j + 1)) := by
    rw [← List.drop_drop, hd, List.drop_left]
  refine ⟨?_, by omega, by rw [hd, List.take_left], ?_⟩
  · rw [hd]
    have := (p_full n).1 e (txT (es.drop (j + 1))) hwe (by simpa using txT_shut (es.drop (j + 1)) []) (by omega)
    exact this
  · have hq : l.length - (txT (es.drop (j + 1))).length = p + 1 + (tx e).length := by omega
    rw [hq]
    refine ⟨fun hlt => ?_, fun heq => ?_⟩
    · obtain ⟨e2, he2⟩ : ∃ e2, es[j + 1]? = some e2 := ⟨_, List.getElem?_eq_getElem hlt⟩
      rw [drop_c he2, txT_cons] at hd2
      have h0 : l[p + 1 + (tx e).length]? = some 44 := by
        have := congrArg (fun t => t[0]?) hd2
        simpa using this
      refine ⟨44, h0, by decide, ?_⟩
      have := congrArg (List.drop 1) hd2
      rw [List.drop_drop] at this
      rw [this, drop_c he2]
      rfl
    · rw [heq, List.drop_length, txT_nil] at hd2
      have := congrArg (fun t => t[0]?) hd2
      simpa using this

/-- The first j texts. -/
def strs (es : List Ex) (j : Nat) : List Value := (es.take j).map fun e => Value.string (bx e)
theorem strs_step {es : List Ex} {j : Nat} {e : Ex} (he : es[j]? = some e) : strs es (j + 1) = strs es j ++ [.string (bx e)] := by simp [strs, List.take_add_one, he]
theorem strs_all (es : List Ex) : strs es es.length = es.map fun e => Value.string (bx e) := by simp [strs]
theorem parts_app {w wr w1 : World} {v v' : Value} {o : Obj} {es : List Ex} {j : Nat} {e : Ex} (he : es[j]? = some e) (hown : wr.ownsRow w.heap.size 9 1 v j (strs es j)) (hb : Below w.heap.size w wr)
    (hown' : w1.ownsRow w.heap.size 9 1 v' (j + 1) (strs es j ++ [.string (bx e)])) (hg : (wr.alloc o).grownBy w1 v.ownBlock) :
    w1.ownsRow w.heap.size 9 1 v' (j + 1) (strs es (j + 1)) ∧ Below w.heap.size w w1 :=
  ⟨by rw [strs_step he]; exact hown', (hb.alloc hb.size o).grown hg (by have := hb.size; simp; omega) (fun k hk => (hown.lt k hk).1)⟩

theorem cut_text {T : ByteArray} {p n : Nat} {e : Ex} (h : (T.data.toList.drop p).take n = tx e) : T.extract p (p + n) = bx e := by
  apply ext_of
  rw [← h]
  simp [ByteArray.data_extract]

set_option maxRecDepth 100000 in
set_option maxHeartbeats 3200000 in
theorem l2Parts_thr (k : Nat) (es : List Ex) (w : World) (hw : wf (.thr k es)) (hl : (tx (.thr k es)).length ≤ 1000) :
    Calls Try.prog 106 #[.string (bx (.thr k es))] w (Parts w es) := by
  obtain ⟨i0, hi0, hz0, hz1, hz2⟩ := info_parts text_info
  have hw' := hw
  simp only [wf] at hw'
  have H0 := At.start (k := k) (es := es) (by omega)
  obtain ⟨T, hT⟩ : ∃ T, T = bx (.thr k es) := ⟨_, rfl⟩
  obtain ⟨l, hle⟩ : ∃ l, l = tx (.thr k es) := ⟨_, rfl⟩
  have hTl : T.data.toList = l := by rw [hT, hle, bx_list]
  have hTs : T.size = l.length := by rw [hT, hle, bx_size]
  have hl1 : 1 < T.size := by rw [hTs, hle]; simp [tx]
  have hz : ((l.length : Int) == 1) = false := beq_eq_false_iff_ne.2 (by omega)
  rw [← hT]
  rw [← hle] at hl H0
  have HW := Lib.hid hw'.2.2.2
  have he6 := hw'.2.2.1
  have HT := Lib.hid hTl
  have HA := Lib.hid H0
  clear hT hle hw hw' hTl H0
  go_enter Try.func106, Try.ntmps106
  go_wp2_with fail
  go_loopw [3, 4] (fun v a wr => ∃ j p : Nat, j ≤ es.length ∧ p < T.size ∧ a = .int .i64 p ∧ wr.ownsRow w.heap.size 9 1 v j (strs es j) ∧ Below w.heap.size w wr ∧ Hid (At l es p j)) (fun _ a _ => T.size - (intOf a).toNat)
  case atStart => exact ⟨0, 1, Nat.zero_le _, hl1, rfl, World.ownsRow_made w #[] 0 (Nat.le_refl _) (Nat.zero_le _) rfl, (Below.refl _ _).alloc (Nat.le_refl _) _, HA.out⟩
  case round =>
    clear HA
    obtain ⟨j, p, hj, hp, rfl, hown, hbel, hat⟩ := hrel
    by_cases hlt : j < es.length
    · obtain ⟨c, hc, hne, _⟩ := hat.out.1 hlt
      have hi := idx (T := T) (k := p) (b := c) (by rw [HT.out]; exact hc)
      have hne' : ((c.toNat : Int) != 41) = true := by simp; omega
      generalize c.toNat = cn at *
      obtain ⟨e, he⟩ : ∃ e, es[j]? = some e := ⟨_, List.getElem?_eq_getElem hlt⟩
      obtain ⟨s1, s2, s3, s4⟩ := hat.out.step he HW.out (2 * l.length + 1) (Nat.le_refl _)
      have hcall : ∀ w : World, Calls Try.prog 95 #[.string T, .int .i64 ((p : Int) + 1)] w fun r w' => r = .returned (.int .i64 ((p : Int) + 1 + ((tx e).length : Int))) ∧ w = w' := by
        intro w
        have h := l2End_any (2 * l.length + 1) T (p + 1) w (by omega) (by omega) (by omega)
        rw [HT.out, s1, Int.natCast_add] at h
        simp only [endV] at h
        rwa [show (T.size : Int) - ((txT (es.drop (j + 1))).length : Int) = (p : Int) + 1 + ((tx e).length : Int) by omega] at h
      have hcut : T.extract (p + 1) (p + 1 + (tx e).length) = bx e := cut_text (by rw [HT.out]; exact s3)
      have hsl : ∀ w : World, (Instr.slice 9 (.string T) (some (.int .i64 ((p : Int) + 1))) (some (.int .i64 ((p : Int) + 1 + ((tx e).length : Int)))) none).run Try.prog w = .ok (.string (bx e)) w := by
        intro w
        rw [run_slice_string_if w 9 T .i64 .i64 _ _ Try.underlying9, if_pos ⟨by omega, by omega⟩, if_pos ⟨by omega, by omega⟩, ← hcut]
        congr 3
      have HS := Lib.hid s4
      have HC := Lib.hid hcall
      have HE := Lib.hid he
      have hq : l.length - (txT (es.drop (j + 1))).length = p + 1 + (tx e).length := by omega
      rw [hq] at s4
      have HS := Lib.hid s4
      have hpos := tx_pos e
      have hqT : p + 1 + (tx e).length < T.size := by
        have : 1 ≤ (txT (es.drop (j + 1))).length := by cases es.drop (j + 1) <;> simp [txT]
        omega
      have hj6 : j < 6 := by omega
      obtain ⟨m, hm⟩ : ∃ m, m = (tx e).length := ⟨_, rfl⟩
      rw [← hm] at hsl hqT hpos
      have HM := Lib.hid hm
      clear hc hne he s1 s2 s3 s4 hcall hcut hat hq hm
      go_wp2_with (first
        | (go_at_call 95; refine (HC.out _).mono ?_; rintro e w' ⟨rfl, rfl⟩; rw [← HM.out])
        | (at_builtin; refine wpList_append_own _ rfl (.tmp 19) (.tmp 25) 97 rfl w.heap.size 9 i0 (.string ⟨#[]⟩) 1 16 Try.underlying97 hi0 hz0 hz1 hz2 rfl (by decide) _ _ _ rfl (hown.alloc _) ⟨wr.heap.size, 0, none⟩ 1 1 [.string (bx e)] rfl rfl (cell_one_new _ _ _) (by intro u hu; simp at hu; subst hu; rfl) (by unfold maxLen; omega) (by omega) (by have := hbel.size; simp; omega) ?_)
        | fail)
      intro v' w1 hown' hgrow _
      have R := Lib.hid (parts_app HE.out hown hbel hown' hgrow)
      clear hown hown' hgrow hbel
      go_wp2_with fail
      go_roundw
      case rel => exact ⟨j + 1, p + 1 + m, by omega, hqT, by go_num, R.out.1, R.out.2, by rw [HM.out]; exact HS.out⟩
      case measure => simp [intOf]; omega
    · have hjl : j = es.length := by omega
      subst hjl
      have hi := idx (T := T) (k := p) (b := 41) (by rw [HT.out]; exact hat.out.2 rfl)
      rw [strs_all] at hown
      obtain ⟨A, c, rfl⟩ := own_slice hown
      have R := Lib.hid (show Parts w es (.returned (.slice A es.length c)) wr from ⟨A, c, rfl, SL.of_own hown, hbel⟩)
      clear hown hbel hat
      go_wp2_with fail
      go_ret
      exact R.out

theorem l2Parts_mem (m : Nat) (w : World) : Calls Try.prog 106 #[.string (bx (.mem m))] w (Parts w []) := by
  have hs : (bx (.mem m)).size = 1 := by rw [bx_size]; simp [tx]
  generalize bx (.mem m) = T at *
  have hz : ((T.size : Int) == 1) = true := beq_iff_eq.2 (by omega)
  go_enter Try.func106, Try.ntmps106
  go_wp2_with fail
  go_ret
  exact ⟨_, _, rfl, .inl rfl, (Below.refl _ _).alloc (Nat.le_refl _) _⟩
end Go.Proofs.Ytgbijndfpbcjeaa
