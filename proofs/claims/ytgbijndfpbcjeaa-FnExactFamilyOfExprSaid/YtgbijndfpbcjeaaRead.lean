/- The program's recursive reader of expressions by its contract. -/
import Derived.Test.YtgbijndfpbcjeaaTree
namespace Go.Proofs.Ytgbijndfpbcjeaa
open Go.RowKit

/-- What a call of the reader leaves: a tree in new blocks and the place behind it, or nothing. -/
def ResE (w : World) (p : Nat) (T : ByteArray) (o : Option (Ex × List UInt8)) (e : Ending) (w' : World) : Prop :=
  w.grownBy w' (some p) ∧ ((o = none ∧ e = .returned (.tuple #[.nilIface, .bool false])) ∨
    ∃ x r v, o = some (x, r) ∧ e = .returned (.tuple #[v, .bool true]) ∧ Tr w' (fun b => w.heap.size ≤ b) x v ∧ PS w' p T (T.size - r.length))
def ResL (w : World) (p : Nat) (T : ByteArray) (o : Option (List Ex × List UInt8)) (e : Ending) (w' : World) : Prop :=
  w.grownBy w' (some p) ∧ ((o = none ∧ e = .returned (.tuple #[.slice none 0 0, .bool false])) ∨
    ∃ xs r A c vs, o = some (xs, r) ∧ e = .returned (.tuple #[.slice A xs.length c, .bool true]) ∧ VL w' (fun b => w.heap.size ≤ b) A vs ∧ TrL w' (fun b => w.heap.size ≤ b) xs vs ∧ PS w' p T (T.size - r.length))
def ExprOk (n : Nat) : Prop := ∀ (p k : Nat) (T : ByteArray) (w : World), PS w p T k → k ≤ T.size → T.size ≤ 1000 → 2 * (T.size - k) + 1 ≤ n →
  Calls Try.prog 97 #[.pointer (some ⟨p, 0, none⟩)] w (ResE w p T (pE n (T.data.toList.drop k)))
def OpsOk (n : Nat) : Prop := ∀ (p k : Nat) (T : ByteArray) (w : World), PS w p T k → k ≤ T.size → T.size ≤ 1000 → 2 * (T.size - k) + 2 ≤ n →
  Calls Try.prog 109 #[.pointer (some ⟨p, 0, none⟩)] w (ResL w p T (pL n 6 (T.data.toList.drop k)))

theorem node_info : (Try.prog.info? 69).map (fun i => (i.zero, i.size, i.bytes)) = some (some .nilIface, 1, 16) := by kernel_rfl

theorem PS.new {w : World} {p k : Nat} {T : ByteArray} (h : PS w p T k) (o : Obj) : PS (w.alloc o) p T k := h.grown (World.grownBy_alloc w o none) (by simp)
theorem tr_mem {w w1 : World} (hs : w.heap.size ≤ w1.heap.size) (m : Nat) :
    Tr (w1.alloc (.cells #[.int .i64 m] 127)) (fun b => w.heap.size ≤ b) (.mem m) (.iface 125 (.pointer (some ⟨w1.heap.size, 0, none⟩))) := by
  simp only [Tr]
  exact ⟨_, rfl, hs, heap_alloc_new w1 _⟩
theorem tr_thr {w w1 : World} {Q : Nat → Prop} (hs : w.heap.size ≤ w1.heap.size) (k : Nat) {xs : List Ex} {A : Option Addr} {c : Nat} {vs : List Value} (hQ : ∀ b, Q b → w.heap.size ≤ b) (hv : VL w1 Q A vs) (ht : TrL w1 Q xs vs) :
    Tr (w1.alloc (.cells #[.int .i64 k, .slice A xs.length c] 111)) (fun b => w.heap.size ≤ b) (.thr k xs) (.iface 108 (.pointer (some ⟨w1.heap.size, 0, none⟩))) := by
  have hg := World.grownBy_alloc w1 (.cells #[.int .i64 k, .slice A xs.length c] 111) none
  have hk : ∀ b, Q b → b < w1.heap.size → w.heap.size ≤ b ∧ (w1.alloc (.cells #[.int .i64 k, .slice A xs.length c] 111)).heap[b]? = w1.heap[b]? := fun b hb hlt => ⟨hQ b hb, hg.block b hlt (by simp)⟩
  simp only [Tr]
  exact ⟨_, A, c, vs, rfl, hs, heap_alloc_new w1 _, hv.keep hg.size hk, TrL.keep hg.size hk _ _ ht⟩
theorem grown_alloc {a b : World} {row : Option Nat} (h : a.grownBy b row) (o : Obj) : a.grownBy (b.alloc o) row := grown_new h (World.grownBy_alloc b o none) (by simp)

set_option maxRecDepth 100000 in
set_option maxHeartbeats 3200000 in
theorem expr_step (n : Nat) (ho : OpsOk n) : ExprOk (n + 1) := by
  intro p k T w h hk hN hn
  obtain ⟨l, hl⟩ : ∃ l, l = T.data.toList := ⟨_, rfl⟩
  have hlen : l.length = T.size := by rw [hl]; simp
  rw [← hl]
  by_cases hkN : k < T.size
  · obtain ⟨b, hb⟩ : ∃ b, l[k]? = some b := ⟨_, List.getElem?_eq_getElem (by omega)⟩
    have hd := drop_cons hb
    cases hD : isD b with
    | false =>
      have HE := Lib.hid (show pE (n + 1) (l.drop k) = none by rw [hd]; cases l.drop (k + 1) <;> simp only [pE, hD] <;> rfl)
      have HC := Lib.hid (digit_no p k T b w h (by rw [← hl]; exact hb) hD)
      clear hd hb hD hl hlen ho h
      go_enter Try.func97, Try.ntmps97
      go_wp2_with fail
      refine HC.out.mono ?_
      rintro e w1 ⟨rfl, g1⟩
      go_wp2_with fail
      go_ret2
      exact ⟨g1, .inl ⟨HE.out, rfl⟩⟩
    | true =>
      obtain ⟨hd1, hd2, hd3⟩ := dg_of hD
      have HC := Lib.hid (digit_yes p k T b w h (by rw [← hl]; exact hb) hD hN)
      go_enter Try.func97, Try.ntmps97
      go_wp2_with fail
      refine HC.out.mono ?_
      rintro e w1 ⟨rfl, p1, g1⟩
      go_wp2_with fail
      refine (take_any p (k + 1) T 40 w1 p1 hN (by omega)).mono ?_
      rintro e w2 ⟨⟨r, c, hc, hr, rfl, p2⟩ | ⟨hno, rfl, p2⟩, g2⟩
      · obtain rfl : c = 40 := UInt8.toNat_inj.1 hc
        rw [← hl] at hr
        have hr2 : r = l.drop (k + 1 + 1) := by
          have := congrArg (List.drop 1) hr
          rw [List.drop_drop] at this
          simpa using this.symm
        have hlt2 : k + 1 < T.size := by
          rcases Nat.lt_or_ge (k + 1) l.length with h' | h'
          · omega
          · rw [List.drop_of_length_le h'] at hr; cases hr
        have hpE : pE (n + 1) (l.drop k) = (match pL n 6 (l.drop (k + 1 + 1)) with | none => none | some (es, r2) => if b.toNat - 48 ≤ es.length then some (.thr (b.toNat - 48) es, r2) else none) := by
          rw [hd, hr, ← hr2]; simp only [pE, hD, if_true]; cases pL n 6 r <;> rfl
        have hcall := ho p (k + 1 + 1) T w2 p2 (by omega) hN (by omega)
        rw [← hl] at hcall
        have g12 := grown_trans g1 g2
        generalize b.toNat - 48 = need at *
        generalize pL n 6 (l.drop (k + 1 + 1)) = o at *
        have HP := Lib.hid hpE
        have HD := Lib.hid hcall
        clear hpE hcall hr2 hr hd hb hD hl hlen ho h HC p1 p2 g1 g2 hd1 hc
        go_wp2_with fail
        refine HD.out.mono ?_
        rintro e w3 ⟨g3, ⟨rfl, rfl⟩ | ⟨xs, r2, A, c, vs, rfl, rfl, hV, hT, p3⟩⟩
        · have g13 := grown_trans g12 g3
          clear g12 g3 HD
          go_wp2_with fail
          go_ret2
          exact ⟨g13, .inl ⟨HP.out, rfl⟩⟩
        · have g13 := grown_trans g12 g3
          have hs := g13.size
          have hs2 := g12.size
          clear g12 g3 HD
          by_cases hle : need ≤ xs.length
          · have HT := Lib.hid (tr_thr (w := w) (w1 := w3) (c := c) hs need (fun b hb => Nat.le_trans hs2 hb) hV hT)
            have H2 := Lib.hid (show pE (n + 1) (l.drop k) = some (.thr need xs, r2) by rw [HP.out]; simp only [if_pos hle])
            clear hV hT HP
            go_wp2_with fail
            go_ret2
            exact ⟨grown_alloc g13 _, .inr ⟨_, _, _, H2.out, rfl, HT.out, p3.new _⟩⟩
          · have H2 := Lib.hid (show pE (n + 1) (l.drop k) = none by rw [HP.out]; simp only [if_neg hle])
            clear hV hT HP
            go_wp2_with fail
            go_ret2
            exact ⟨g13, .inl ⟨H2.out, rfl⟩⟩
      · rw [← hl] at hno
        have hpE : pE (n + 1) (l.drop k) = some (.mem (b.toNat - 48), l.drop (k + 1)) := by
          rw [hd]
          cases hr : l.drop (k + 1) with
          | nil => simp only [pE, hD, if_true]
          | cons c r => simp only [pE, hD, if_true, if_neg (show ¬ c = 40 by rintro rfl; exact hno 40 r hr rfl)]
        have HP := Lib.hid hpE
        have g12 := grown_trans g1 g2
        have hq : T.size - (l.drop (k + 1)).length = k + 1 := by rw [List.length_drop]; omega
        have HQ := Lib.hid hq
        generalize b.toNat - 48 = need at *
        clear hpE hno hd hb hD hl hlen ho h HC p1 g1 g2 hd1 hq
        have HT := Lib.hid (tr_mem (w := w) (w1 := w2) g12.size need)
        go_wp2_with fail
        go_ret2
        exact ⟨grown_alloc g12 _, .inr ⟨_, _, _, HP.out, rfl, HT.out, by rw [HQ.out]; exact p2.new _⟩⟩
  · have HE := Lib.hid (show pE (n + 1) (l.drop k) = none by rw [List.drop_of_length_le (by omega), pE])
    have HC := Lib.hid (digit_end p k T w h (by omega))
    clear hl hlen ho h
    go_enter Try.func97, Try.ntmps97
    go_wp2_with fail
    refine HC.out.mono ?_
    rintro e w1 ⟨rfl, g1⟩
    go_wp2_with fail
    go_ret2
    exact ⟨g1, .inl ⟨HE.out, rfl⟩⟩

def sliceLen : Value → Nat
  | .slice _ n _ => n
  | _ => 0
/-- Put what was read ahead of what is still to be read. -/
def ahead (es : List Ex) : Option (List Ex × List UInt8) → Option (List Ex × List UInt8)
  | none => none
  | some (xs, r) => some (es ++ xs, r)
theorem own_row {w w1 : World} {base : Nat} {e : TypeId} {v : Value} {n : Nat} {xs : List Value} {row : Option Nat} (h : w.ownsRow base e 1 v n xs) (hg : w.grownBy w1 row) (hr : ∀ b, row = some b → b < base) : w1.ownsRow base e 1 v n xs := by
  refine ⟨h.1, ?_⟩
  rcases h.2 with h0 | ⟨g, cap, cur, hv, hb, hh, rest⟩
  · exact .inl h0
  · exact .inr ⟨g, cap, cur, hv, hb, (hg.block g (Array.getElem?_eq_some_iff.1 hh).1 (fun e => by have := hr g e.symm; omega)).trans hh, rest⟩

/-- Behind an append of a tree to the call's own list. -/
theorem node_app {w wr w1 w2 : World} {p : Nat} {v v' u : Value} {o : Obj} {es : List Ex} {x : Ex} {vs : List Value} (hp : p < w.heap.size) (hwr : w.grownBy wr (some p)) (h1 : wr.grownBy w1 (some p))
    (hown : wr.ownsRow w.heap.size 69 1 v es.length vs)
    (hT : TrL wr (fun b => w.heap.size ≤ b ∧ some b ≠ v.ownBlock) es vs) (hx : Tr w1 (fun b => wr.heap.size ≤ b) x u)
    (hown' : w2.ownsRow w.heap.size 69 1 v' (es.length + 1) (vs ++ [u])) (hg : (w1.alloc o).grownBy w2 v.ownBlock) (hat : v'.ownBlock = v.ownBlock ∨ v'.ownBlock = some (w1.heap.size + 1)) :
    w2.ownsRow w.heap.size 69 1 v' (es ++ [x]).length (vs ++ [u]) ∧ TrL w2 (fun b => w.heap.size ≤ b ∧ some b ≠ v'.ownBlock) (es ++ [x]) (vs ++ [u]) ∧ w.grownBy w2 (some p) ∧ w1.grownBy w2 v.ownBlock := by
  have hsz : (w1.alloc o).heap.size = w1.heap.size + 1 := by simp
  have hg1 : w1.grownBy w2 v.ownBlock := grown_trans (World.grownBy_alloc w1 o v.ownBlock) hg
  have hrow : ∀ b, v.ownBlock = some b → w.heap.size ≤ b ∧ b < wr.heap.size := hown.lt
  have hs1 := hwr.size
  have hs2 := h1.size
  have hne : ∀ b, b < w1.heap.size → some b ≠ v.ownBlock → some b ≠ v'.ownBlock := by
    intro b hb h0 h'
    rcases hat with e | e
    · rw [e] at h'; exact h0 h'
    · rw [e] at h'; injection h' with h'; omega
  refine ⟨by simpa using hown', TrL.app ?_ es vs ?_, ?_, hg1⟩
  · refine Tr.keep hg1.size (fun b hb hlt => ?_) _ _ hx
    have h0 : some b ≠ v.ownBlock := fun e => by have := hrow b e.symm; omega
    exact ⟨⟨by omega, hne b hlt h0⟩, hg1.block b hlt h0⟩
  · have k1 : TrL w1 (fun b => w.heap.size ≤ b ∧ some b ≠ v.ownBlock) es vs := TrL.keep hs2 (fun b hb hlt => ⟨hb, h1.block b hlt (fun e => by injection e with e; omega)⟩) _ _ hT
    exact TrL.keep hg1.size (fun b hb hlt => ⟨⟨hb.1, hne b hlt hb.2⟩, hg1.block b hlt hb.2⟩) _ _ k1
  · exact grown_new (grown_trans hwr h1) hg1 (fun i hi => (hrow i hi).1)

set_option maxRecDepth 100000 in
set_option maxHeartbeats 3200000 in
theorem ops_step (n : Nat) (ih : ∀ m, m < n → ExprOk m) : OpsOk n := by
  intro p k T w h hk hN hn
  obtain ⟨i0, hi0, hz0, hz1, hz2⟩ := info_parts node_info
  obtain ⟨l, hl⟩ : ∃ l, l = T.data.toList := ⟨_, rfl⟩
  have hlen : l.length = T.size := by rw [hl]; simp
  rw [← hl]
  have hpw := h.lt
  have HL := Lib.hid hl
  clear hl
  generalize hO : pL n 6 (l.drop k) = O
  have HO := Lib.hid hO
  clear hO
  go_enter Try.func109, Try.ntmps109
  go_wp2_with fail
  go_loopw [4] (fun v wr => ∃ (k' m : Nat) (es : List Ex) (vs : List Value), k' ≤ T.size ∧ m ≤ n ∧ 2 * (T.size - k') + 2 ≤ m ∧ es.length ≤ 6 ∧ wr.ownsRow w.heap.size 69 1 v es.length vs ∧ TrL wr (fun b => w.heap.size ≤ b ∧ some b ≠ v.ownBlock) es vs ∧ PS wr p T k' ∧ w.grownBy wr (some p) ∧ Hid (O = ahead es (pL m (6 - es.length) (l.drop k')))) (fun v _ => 6 - sliceLen v)
  case atStart => exact ⟨k, n, [], [], hk, Nat.le_refl _, hn, by simp, World.ownsRow_nil _ _ _ _, by simp only [TrL], h, World.grownBy.refl _ _, (by have := HO.out; rw [← this]; cases pL n 6 (l.drop k) <;> rfl)⟩
  case round =>
    clear h hk hn HO
    obtain ⟨k', m, es, vs, hk', hmn, hm, he6, hown, hT, hp, hg, hO⟩ := hrel
    obtain ⟨A, c, rfl⟩ := own_slice hown
    by_cases hlt : es.length < 6
    · obtain ⟨m', rfl⟩ : ∃ m', m = m' + 1 := ⟨m - 1, by omega⟩
      have hcall := Lib.hid (ih m' (by omega) p k' T wr hp hk' hN (by omega))
      go_wp2_with fail
      refine hcall.out.mono ?_
      rintro e w1 ⟨g1, ⟨hnone, rfl⟩ | ⟨x, r1, u, hsome, rfl, hx, p1⟩⟩
      · have g2 := grown_trans hg g1
        have HE := Lib.hid (show O = none by rw [hO.out, show 6 - es.length = (5 - es.length) + 1 by omega, pL, HL.out, hnone]; rfl)
        clear hg g1 hO hown hT hp hcall hnone
        go_wp2_with fail
        go_ret2
        exact ⟨g2, .inl ⟨HE.out, rfl⟩⟩
      · obtain ⟨t, a, rfl⟩ := hx.form
        rw [← HL.out] at hsome
        obtain ⟨s1, _⟩ := (p_sound m').1 _ _ _ hsome
        have hle := congrArg List.length s1
        have htp := tx_pos x
        simp only [List.length_drop, List.length_append] at hle
        obtain ⟨q, hq⟩ : ∃ q, q = T.size - r1.length := ⟨_, rfl⟩
        have hdq : l.drop q = r1 := by
          have e1 : l.drop q = (l.drop k').drop (tx x).length := by rw [List.drop_drop]; congr 1; omega
          rw [e1, s1, List.drop_left]
        rw [← hq] at p1
        have hO1 : O = ahead (es ++ [x]) (pT m' (5 - es.length) (l.drop q)) := by
          rw [hO.out, show 6 - es.length = (5 - es.length) + 1 by omega, pL, hsome, hdq]
          simp only
          cases pT m' (5 - es.length) r1 with
          | none => rfl
          | some y => obtain ⟨xs, r2⟩ := y; simp [ahead]
        have hqk : k' < q := by omega
        have hqT : q ≤ T.size := by omega
        have own1 := own_row hown g1 (fun b hb => by injection hb with hb; omega)
        have HO1 := Lib.hid hO1
        have hsz1 := hg.size
        have hsz2 := g1.size
        obtain ⟨m2, rfl⟩ : ∃ m2, m' = m2 + 1 := ⟨m' - 1, by omega⟩
        clear hO hO1 hcall hsome s1 hle htp hq hdq hp
        go_wp2_with (at_builtin; refine wpList_append_own_at _ rfl (.tmp 17) (.tmp 19) 109 rfl w.heap.size 69 i0 .nilIface 1 16 Try.underlying109 hi0 hz0 hz1 hz2 rfl (by decide) _ _ _ rfl (own1.alloc _) ⟨w1.heap.size, 0, none⟩ 1 1 [.iface t (.pointer (some a))] rfl rfl (cell_one_new _ _ _) (by intro u hu; simp at hu; subst hu; rfl) (by unfold maxLen; omega) (by omega) (by simp; omega) ?_)
        intro v' w2 hown' hgrow _ hat
        obtain ⟨hown2, hT2, hg2, hg12⟩ := node_app hpw hg g1 hown hT hx hown' hgrow hat
        have p2 := p1.grown hg12 (fun e => by have := (hown.lt p e).1; omega)
        obtain ⟨A2, c2, rfl⟩ := own_slice hown2
        have hes : (es ++ [x]).length = es.length + 1 := by simp
        obtain ⟨es2, hes2⟩ : ∃ es2, es2 = es ++ [x] := ⟨_, rfl⟩
        obtain ⟨vs2, hvs2⟩ : ∃ vs2, vs2 = vs ++ [Value.iface t (.pointer (some a))] := ⟨_, rfl⟩
        rw [← hes2] at hown2 hT2 hes ⊢
        rw [← hvs2] at hown2 hT2
        have HO2 : Hid (O = ahead es2 (pT (m2 + 1) (6 - es2.length) (l.drop q))) := Lib.hid (by rw [HO1.out, ← hes2, hes, show 6 - (es.length + 1) = 5 - es.length by omega])
        have he2 : es2.length ≤ 6 := by omega
        have he3 : es.length < es2.length := by omega
        clear hown' hgrow hat hown hT hx p1 own1 hg12 hg g1 HO1 hes2 hvs2 hes
        go_wp2_with fail
        refine (take_any p q T 41 w2 p2 hN hqT).mono ?_
        rintro e w3 ⟨⟨r, b, hb, hr, rfl, p3⟩ | ⟨hno, rfl, p3⟩, g3⟩
        · obtain rfl : b = 41 := UInt8.toNat_inj.1 hb
          rw [← HL.out] at hr
          have hrl := congrArg List.length hr
          simp only [List.length_drop, List.length_cons] at hrl
          have HE := Lib.hid (show O = some (es2, r) by rw [HO2.out, hr]; simp [pT, ahead])
          have HV := Lib.hid (VL.of_own (Q := fun b => w.heap.size ≤ b) (own_row hown2 g3 (fun b hb => by injection hb with hb; omega)) (fun b hb => hb))
          have HT := Lib.hid (TrL.keep (Q' := fun b => w.heap.size ≤ b) g3.size (fun b hb hlt => ⟨hb.1, g3.block b hlt (fun e => by injection e with e; have := hb.1; omega)⟩) _ _ hT2)
          have HP := Lib.hid (show PS w3 p T (T.size - r.length) by rw [show T.size - r.length = q + 1 by omega]; exact p3)
          have g4 := grown_trans hg2 g3
          clear HO2 hown2 hT2 hg2 g3 p2 p3 hr hrl hb
          go_wp2_with fail
          go_ret2
          exact ⟨g4, .inr ⟨_, _, _, _, _, HE.out, rfl, HV.out, HT.out, HP.out⟩⟩
        · rw [← HL.out] at hno
          have own3 := own_row hown2 g3 (fun b hb => by injection hb with hb; omega)
          have hT3 := TrL.keep (Q' := fun b => w.heap.size ≤ b ∧ some b ≠ (Value.slice A2 es2.length c2).ownBlock) g3.size (fun b hb hlt => ⟨hb, g3.block b hlt (fun e => by injection e with e; have := hb.1; omega)⟩) _ _ hT2
          have g4 := grown_trans hg2 g3
          have HNO := Lib.hid hno
          clear hown2 hT2 hg2 g3 p2 hno
          go_wp2_with fail
          refine (take_any p q T 44 w3 p3 hN hqT).mono ?_
          rintro e w4 ⟨⟨r, b, hb, hr, rfl, p5⟩ | ⟨hno, rfl, p5⟩, g5⟩
          · obtain rfl : b = 44 := UInt8.toNat_inj.1 hb
            rw [← HL.out] at hr
            have hrl := congrArg List.length hr
            simp only [List.length_drop, List.length_cons] at hrl
            have hr2 : l.drop (q + 1) = r := by
              have := congrArg (List.drop 1) hr
              rw [List.drop_drop] at this
              simpa using this
            have HE := Lib.hid (show O = ahead es2 (pL m2 (6 - es2.length) (l.drop (q + 1))) by rw [HO2.out, hr, hr2]; simp [pT])
            have own5 := own_row own3 g5 (fun b hb => by injection hb with hb; omega)
            have hT5 := TrL.keep (Q' := fun b => w.heap.size ≤ b ∧ some b ≠ (Value.slice A2 es2.length c2).ownBlock) g5.size (fun b hb hlt => ⟨hb, g5.block b hlt (fun e => by injection e with e; have := hb.1; omega)⟩) _ _ hT3
            have g6 := grown_trans g4 g5
            have HB := Lib.hid (And.intro own5 (And.intro hT5 (And.intro p5 g6)))
            have hqq : q + 1 ≤ T.size := by omega
            clear own3 hT3 g4 g5 own5 hT5 p3 HO2 hr hr2 hrl hb p5 g6 HNO
            go_wp2_with fail
            go_roundw
            case rel => exact ⟨q + 1, m2, es2, vs2, hqq, by omega, by omega, he2, HB.out.1, HB.out.2.1, HB.out.2.2.1, HB.out.2.2.2, HE.out⟩
            case measure => simp [sliceLen]; omega
          · rw [← HL.out] at hno
            have HE := Lib.hid (show O = none by
              rw [HO2.out]
              cases hr : l.drop q with
              | nil => simp [pT, ahead]
              | cons b r =>
                have h1 : ¬ b = 41 := by rintro rfl; exact HNO.out 41 r hr rfl
                have h2 : ¬ b = 44 := by rintro rfl; exact hno 44 r hr rfl
                simp [pT, ahead, h1, h2])
            have g6 := grown_trans g4 g5
            clear own3 hT3 g4 g5 p3 HO2 p5 HNO hno
            go_wp2_with fail
            go_ret2
            exact ⟨g6, .inl ⟨HE.out, rfl⟩⟩
    · have HE := Lib.hid (show O = none by rw [hO.out, show 6 - es.length = 0 by omega]; cases m <;> simp only [pL] <;> rfl)
      clear hO hown hT hp
      go_wp2_with fail
      go_ret2
      exact ⟨hg, .inl ⟨HE.out, rfl⟩⟩

/-- Both readers, for every number of calls. -/
theorem expr_ok (n : Nat) : ExprOk n ∧ OpsOk n := by
  induction n using Nat.strongRecOn with
  | ind n ih =>
    refine ⟨?_, ops_step n fun m hm => (ih m hm).1⟩
    cases n with
    | zero => intro p k T w _ _ _ h; omega
    | succ n => exact expr_step n (ih n (by omega)).2
end Go.Proofs.Ytgbijndfpbcjeaa
