/- The reference model's quorum systems: their test and their quorums, by their contracts. -/
import Derived.Test.YtmickonngpkoiaaDoorGb
import Derived.Deep.RegionWith
import Derived.Test.YtmickonngpkoiaaDoorGa
import Derived.BigRegion
import Derived.Maps.AppendAt
namespace Go.Proofs.YtmickonngpkoiaaDoor
open Go.RowKit

set_option maxRecDepth 100000 in
set_option maxHeartbeats 1600000 in
theorem specValid_drew (A : Option Addr) (c : Nat) (l : List Int) (w : World) (ha : IL w A l) (hl : l.length ≤ 1048576) :
    Calls Tryd.prog 12 #[.slice A l.length c] w fun e w' => e = .returned (.bool (vld l)) ∧ ∃ n, w' = w.drewN n := by
  go_enter Tryd.func12, Tryd.ntmps12
  go_wp2
  go_loopw [3] (fun i wr => ∃ (k : Nat) (q : Int), k ≤ l.length ∧ i = .int .i64 k ∧ 0 ≤ q ∧ Hid (Last l k q) ∧ Hid (vf q (l.drop k) = vld l) ∧ Drew w wr) (fun i _ => l.length - (intOf i).toNat)
  case atStart => exact ⟨0, 0, Nat.zero_le _, rfl, by omega, .inl ⟨rfl, rfl⟩, rfl, Drew.refl _⟩
  case round =>
    obtain ⟨k, q, hk, rfl, hq0, hlast, hvf, hbel⟩ := hrel
    by_cases hlt : k < l.length
    · obtain ⟨b, off, x, hA, hx, hc⟩ := (ha.below hbel.below).at_ hlt
      have HX := Lib.hid hx
      clear hx
      have hki : (0 : Int) ≤ (k : Int) := by omega
      have hki2 : (k : Int) < (l.length : Int) := by omega
      by_cases hin : 1 ≤ x ∧ x ≤ 6
      · obtain ⟨hx1, hx6⟩ := hin
        rcases hlast.out with ⟨h0, rfl⟩ | ⟨j, rfl, hy⟩
        · subst hA
          have H1 := Lib.hid (vf_step HX.out hvf.out (by omega) hx6)
          have H0 := Lib.hid h0
          have hkd : decide (0 < k) = false := by simp; omega
          clear hlast h0
          go_wp2
          go_quiet ((go_at_call 13; exact Calls.quiet_of_same (l6In_yes _ _ _ _ hx1 hx6)))
          go_wp2
          go_roundw
          case rel => exact ⟨k + 1, x, by omega, by go_num, by omega, .inr ⟨k, rfl, HX.out⟩, H1.out, hbel.more _⟩
          case measure => simp [intOf]; omega
        · have hc2 : ∃ b off, A = some ⟨b, off, none⟩ ∧ wr.cell? ⟨b, off + j, none⟩ = some (.int .i64 q) := by
            obtain ⟨b, off, y, hA', hy', hc'⟩ := (ha.below hbel.below).at_ (k := j) (by omega)
            rw [hy] at hy'; obtain rfl := Option.some.inj hy'
            exact ⟨b, off, hA', hc'⟩
          obtain ⟨b', off', hA', hc'⟩ := hc2
          subst hA
          obtain ⟨rfl, rfl⟩ : b = b' ∧ off = off' := by injection hA' with h; injection h with h1 h2; exact ⟨h1, h2⟩
          clear hA' hy hlast
          have hj0 : (0 : Int) ≤ (j : Int) := by omega
          have hj1 : (j : Int) < (l.length : Int) := by omega
          by_cases hqx : q < x
          · have H1 := Lib.hid (vf_step HX.out hvf.out hqx hx6)
            go_wp2
            go_quiet ((go_at_call 13; exact Calls.quiet_of_same (l6In_yes _ _ _ _ hx1 hx6)))
            go_wp2
            go_roundw
            case rel => exact ⟨j + 1 + 1, x, by omega, by go_num, by omega, .inr ⟨j + 1, rfl, HX.out⟩, H1.out, hbel.more _⟩
            case measure => simp [intOf]; omega
          · have H1 := Lib.hid (vf_stop HX.out hvf.out (by omega))
            go_wp2
            go_quiet ((go_at_call 13; exact Calls.quiet_of_same (l6In_yes _ _ _ _ hx1 hx6)))
            go_wp2
            go_ret
            exact ⟨ret_bool H1.out.symm, hbel.more _⟩
      · subst hA
        have H1 := Lib.hid (vf_stop HX.out hvf.out (by omega))
        have ho : x < 1 ∨ 6 < x := by omega
        go_wp2
        go_quiet ((go_at_call 13; exact Calls.quiet_of_same (l6In_no _ _ _ _ ho)))
        go_wp2
        go_ret
        exact ⟨ret_bool H1.out.symm, hbel.more _⟩
    · have hkl : k = l.length := by omega
      subst hkl
      have H1 := Lib.hid (vf_end hvf.out)
      clear hvf hlast
      go_wp2
      go_ret
      exact ⟨ret_bool H1.out.symm, hbel⟩


/-- A callee that leaves the world as it is, in a region that draws. -/
theorem quiet_same {P : Program} {f : FuncId} {args : Array Value} {w : World} {n : Nat} {v : Value}
    (h : Calls P f args (w.drewN n) fun e w' => e = .returned v ∧ w.drewN n = w') : Calls P f args (w.drewN n) fun e w'' => e = .returned v ∧ ∃ m, w'' = w.drewN m :=
  h.mono fun _ _ ⟨he, hm⟩ => ⟨he, n, hm.symm⟩
theorem IL.drew {w : World} {A : Option Addr} {l : List Int} (h : IL w A l) (n : Nat) : IL (w.drewN n) A l := h.below (below_drewN (Below.refl _ _) n)

theorem hasL_take {F : List (List Int)} {k : Nat} {l s : List Int} (h : F[k]? = some l) : hasL (F.take (k + 1)) s = (hasL (F.take k) s || subs l s) := by
  simp [hasL, List.take_add_one, h]
theorem hasL_mem {F : List (List Int)} {k : Nat} {l s : List Int} (h : F[k]? = some l) (hs : subs l s = true) : hasL F s = true :=
  List.any_eq_true.2 ⟨l, List.mem_of_getElem? h, hs⟩

/-- The mask of the last set that was read. -/
def lastm (F : List (List Int)) : Nat → Nat
  | 0 => 0
  | k + 1 => msk (F.getD k [])
/-- The first k sets have passed the test. -/
def FS (F : List (List Int)) (k : Nat) : Prop :=
  allV (F.take k) ∧ (∀ q ∈ msks (F.take k), q ≤ lastm F k) ∧ fv (msks (F.take k)) (lastm F k) (F.drop k) = fv [] 0 F
theorem FS.zero (F : List (List Int)) : FS F 0 := ⟨by simp [allV], by simp [msks], by simp [msks, lastm]⟩
theorem drop_l {F : List (List Int)} {k : Nat} {l : List Int} (h : F[k]? = some l) : F.drop k = l :: F.drop (k + 1) := by
  have hj : k < F.length := (List.getElem?_eq_some_iff.1 h).1
  rw [List.drop_eq_getElem_cons hj]; congr 1; exact Option.some.inj ((List.getElem?_eq_getElem hj).symm.trans h)
theorem take_l {F : List (List Int)} {k : Nat} {l : List Int} (h : F[k]? = some l) : F.take (k + 1) = F.take k ++ [l] := by simp [List.take_add_one, h]
theorem FS.bad {F : List (List Int)} {k : Nat} {l : List Int} (h : FS F k) (hx : F[k]? = some l) (hb : vld l = false ∨ msk l ≤ lastm F k ∨ hasQ (msks (F.take k)) (msk l) = true) : famOk F = false := by
  have h3 := h.2.2
  rw [drop_l hx, fv] at h3
  unfold famOk
  rw [← h3]
  rcases hb with hb | hb | hb
  · simp [hb]
  · simp [show ¬ lastm F k < msk l by omega]
  · simp [hb]
theorem FS.step {F : List (List Int)} {k : Nat} {l : List Int} (h : FS F k) (hx : F[k]? = some l) (h1 : vld l = true) (h2 : lastm F k < msk l) (h3 : hasQ (msks (F.take k)) (msk l) = false) : FS F (k + 1) := by
  have hlast : lastm F (k + 1) = msk l := by simp [lastm, hx]
  have hm : msks (F.take (k + 1)) = msks (F.take k) ++ [msk l] := by rw [take_l hx]; simp [msks]
  refine ⟨?_, ?_, ?_⟩
  · rw [take_l hx]
    intro a ha
    rcases List.mem_append.1 ha with h5 | h5
    · exact h.1 a h5
    · simp at h5; subst h5; exact h1
  · rw [hm, hlast]
    intro q hq
    rcases List.mem_append.1 hq with h5 | h5
    · have := h.2.1 q h5; omega
    · simp at h5; omega
  · have h4 := h.2.2
    rw [drop_l hx, fv, h1, h3] at h4
    rw [hm, hlast, ← h4]
    simp [h2]
theorem FS.end_ {F : List (List Int)} (h : FS F F.length) : famOk F = decide ((F.length : Int) ≤ 20) := by
  have := h.2.2
  rw [List.drop_length, fv] at this
  rw [famOk, ← this, Bool.and_true]
  exact decide_eq_decide.2 (by omega)
theorem msk_pos {l : List Int} (h : vld l = true) (hl : l.length ≠ 0) : 0 < msk l :=
  all_of (P := fun l => l.length ≠ 0 → 0 < msk l) (by decide +kernel) h hl
theorem msk_nil {l : List Int} (hl : l.length = 0) : msk l = 0 := by
  obtain rfl := List.eq_nil_of_length_eq_zero hl
  rfl
theorem FS.at_ {F : List (List Int)} {k j : Nat} {l m : List Int} (h : FS F k) (hj : j < k) (hm : F[j]? = some m) (h1 : vld l = true) (h2 : lastm F k < msk l) : vld m = true ∧ subs l m = false := by
  have hmt : m ∈ F.take k := List.mem_of_getElem? (i := j) (by rw [List.getElem?_take_of_lt hj]; exact hm)
  have hv := h.1 m hmt
  refine ⟨hv, ?_⟩
  rw [subs_sub h1 hv, Bool.eq_false_iff]
  intro hs
  have := sub_le (msk_lt h1) (msk_lt hv) hs
  have := h.2.1 (msk m) (List.mem_map.2 ⟨m, hmt, rfl⟩)
  omega
theorem hasQ_take {F : List (List Int)} {j : Nat} {l m : List Int} (hm : F[j]? = some m) (hv : vld m = true) (h1 : vld l = true) : hasQ (msks (F.take (j + 1))) (msk l) = (hasQ (msks (F.take j)) (msk l) || subs m l) := by
  rw [take_l hm, subs_sub hv h1]
  simp [msks, hasQ]
theorem hasQ_more {F : List (List Int)} {j k : Nat} {s : Nat} (hj : j ≤ k) (h : hasQ (msks (F.take j)) s = true) : hasQ (msks (F.take k)) s = true := by
  obtain ⟨q, hq, hs⟩ := mem_hasQ.1 h
  refine mem_hasQ.2 ⟨q, ?_, hs⟩
  obtain ⟨a, ha, rfl⟩ := List.mem_map.1 hq
  refine List.mem_map.2 ⟨a, ?_, rfl⟩
  rw [show F.take j = (F.take k).take j by rw [List.take_take, Nat.min_eq_left hj]] at ha
  exact List.mem_of_mem_take ha

end Go.Proofs.YtmickonngpkoiaaDoor

/- The reference model's test of a quorum system, by its contract. -/
namespace Go.Proofs.YtmickonngpkoiaaDoor
open Go.RowKit

end Go.Proofs.YtmickonngpkoiaaDoor

/- The program's quorum systems: reading, testing, and asking for a quorum, by their contracts. -/
namespace Go.Proofs.YtmickonngpkoiaaDoor
open Go.RowKit

/-- Masks as bytes. -/
def ubs (K : List Nat) : List Value := K.map fun (m : Nat) => Value.int .u8 (m : Int)
theorem ubs_len (K : List Nat) : (ubs K).length = K.length := by simp [ubs]
theorem ubs_snoc (K : List Nat) (m : Nat) : ubs (K ++ [m]) = ubs K ++ [.int .u8 (m : Int)] := by simp [ubs]
theorem bits_info : (Tryd.prog.info? 53).map (fun i => (i.zero, i.size, i.bytes)) = some (some (.int .u8 0), 1, 1) := by kernel_rfl

/-- The slice at A reads as the masks K. -/
def IB (w : World) (A : Option Addr) (K : List Nat) : Prop :=
  K = [] ∨ ∃ b off, A = some ⟨b, off, none⟩ ∧ b < w.heap.size ∧ ∀ (j : Nat) m, K[j]? = some m → w.cell? ⟨b, off + j, none⟩ = some (.int .u8 (m : Int))
theorem IB.at_ {w : World} {A : Option Addr} {K : List Nat} {k : Nat} (h : IB w A K) (hk : k < K.length) :
    ∃ b off m, A = some ⟨b, off, none⟩ ∧ K[k]? = some m ∧ w.cell? ⟨b, off + k, none⟩ = some (.int .u8 (m : Int)) := by
  rcases h with rfl | ⟨b, off, rfl, _, hc⟩
  · simp at hk
  · exact ⟨b, off, K[k], rfl, List.getElem?_eq_getElem hk, hc k _ (List.getElem?_eq_getElem hk)⟩
theorem IB.below {w w' : World} {A : Option Addr} {K : List Nat} (h : IB w A K) (hb : Below w.heap.size w w') : IB w' A K := by
  rcases h with rfl | ⟨b, off, rfl, hlt, hc⟩
  · exact .inl rfl
  · exact .inr ⟨b, off, rfl, Nat.lt_of_lt_of_le hlt hb.size, fun j x hx => (hb.cell (p := ⟨b, off + j, none⟩) hlt).trans (hc j x hx)⟩
theorem IB.of_own {w : World} {base : Nat} {e : TypeId} {A : Option Addr} {n c : Nat} {K : List Nat} (h : w.ownsRow base e 1 (.slice A n c) n (ubs K)) : IB w A K ∧ n = K.length := by
  have hn : n = K.length := by have := h.1; rw [ubs_len] at this; omega
  refine ⟨?_, hn⟩
  rcases h.2 with ⟨_, h0⟩ | ⟨g, cap, cur, hv, hb, hg, _, _, _, ht⟩
  · left; exact List.eq_nil_of_length_eq_zero (by omega)
  · right
    injection hv with hA
    subst hA
    refine ⟨g, 0, rfl, (Array.getElem?_eq_some_iff.1 hg).1, fun j x hx => ?_⟩
    have := h.cells (g := g) rfl j (.int .u8 x) (by simp [ubs, hx])
    rw [Addr.add_lit] at this
    exact this
theorem hasQ_step {K : List Nat} {k m s : Nat} (h : K[k]? = some m) : hasQ (K.take (k + 1)) s = (hasQ (K.take k) s || sub m s) := by
  simp [hasQ, List.take_add_one, h]

theorem app_gen {w wr w1 : World} {base : Nat} {e : TypeId} {v : Value} {o : Obj} {n : Nat} {xs : List Value} (hown : wr.ownsRow base e 1 v n xs) (hbase : w.heap.size ≤ base) (hb : Below w.heap.size w wr) (hg : (wr.alloc o).grownBy w1 v.ownBlock) : Below w.heap.size w w1 :=
  (hb.alloc hb.size o).grown hg (by have := hb.size; simp; omega) (fun k hk => Nat.le_trans hbase (hown.lt k hk).1)
theorem msks_take {F : List (List Int)} {k : Nat} {l : List Int} (h : F[k]? = some l) : msks (F.take (k + 1)) = msks (F.take k) ++ [msk l] := by rw [take_l h]; simp [msks]
theorem lastm_lt {F : List (List Int)} {k : Nat} (h : FS F k) (hk : k ≤ F.length) : lastm F k < 64 := by
  cases k with
  | zero => simp [lastm]
  | succ k =>
    have hx : F[k]? = some F[k] := List.getElem?_eq_getElem (by omega)
    have : lastm F (k + 1) = msk F[k] := by simp [lastm, hx]
    rw [this]
    exact msk_lt (h.1 _ (List.mem_of_getElem? (i := k) (by rw [List.getElem?_take_of_lt (by omega)]; exact hx)))

/-- What the reading of a quorum system hands back. -/
def FamOf (w : World) (F : List (List Int)) (e : Ending) (w' : World) : Prop :=
  Below w.heap.size w w' ∧ ((famOk F = false ∧ e = .returned (.tuple #[.slice none 0 0, .bool false])) ∨
    (famOk F = true ∧ ∃ A c, e = .returned (.tuple #[.slice A (msks F).length c, .bool true]) ∧ w'.ownsRow w.heap.size 53 1 (.slice A (msks F).length c) (msks F).length (ubs (msks F))))
theorem u8_le (a b : Nat) : ((a : Int) ≤ (b : Int)) ↔ a ≤ b := by omega

def hasQR (F : List (List Int)) (s : List Int) : Bool := famOk F && vld s && hasL F s

end Go.Proofs.YtmickonngpkoiaaDoor

/- The program's heap of sets: its methods, by their contracts. -/
namespace Go.Proofs.YtmickonngpkoiaaDoor
open Go.RowKit

section
variable {w w' : World} {p g c : Nat} {a : List Nat}
theorem ubs_set (a : List Nat) (i m : Nat) : (ubs a).set i (.int .u8 (m : Int)) = ubs (a.set i m) := by simp [ubs, List.map_set]
end
/-- Only block p and block g have been written. -/
structure Two (p g : Nat) (w w' : World) : Prop where
  os : w'.os = w.os
  tape : w'.tape = w.tape
  output : w'.output = w.output
  size : w.heap.size = w'.heap.size
  block : ∀ i, i ≠ p → i ≠ g → w'.heap[i]? = w.heap[i]?
theorem Two.refl (p g : Nat) (w : World) : Two p g w w := ⟨rfl, rfl, rfl, rfl, fun _ _ _ => rfl⟩
theorem Two.trans {p g : Nat} {a b c : World} (h : Two p g a b) (k : Two p g b c) : Two p g a c :=
  ⟨k.os.trans h.os, k.tape.trans h.tape, k.output.trans h.output, h.size.trans k.size, fun i h1 h2 => (k.block i h1 h2).trans (h.block i h1 h2)⟩
theorem Two.drew {p g : Nat} {a b : World} (h : Two p g a b) (n : Nat) : Two p g a (b.drewN n) := ⟨h.os, h.tape, h.output, h.size, h.block⟩
theorem Two.drw {p g : Nat} {a b c : World} (h : Two p g a b) (hd : Drew b c) : Two p g a c := by obtain ⟨n, rfl⟩ := hd; exact h.drew n
theorem Two.setG {p g : Nat} {a b : World} (h : Two p g a b) (i : Nat) (v : Value) : Two p g a (b.setCell ⟨g, i, none⟩ v) :=
  ⟨h.os, h.tape, h.output, by rw [h.size]; simp [World.setCell], fun k h1 h2 => (Below.heap_setCell b ⟨g, i, none⟩ v k h2).trans (h.block k h1 h2)⟩
theorem Two.setP {p g : Nat} {a b : World} (h : Two p g a b) (i : Nat) (v : Value) : Two p g a (b.setCell ⟨p, i, none⟩ v) :=
  ⟨h.os, h.tape, h.output, by rw [h.size]; simp [World.setCell], fun k h1 h2 => (Below.heap_setCell b ⟨p, i, none⟩ v k h1).trans (h.block k h1 h2)⟩

theorem take_ubs (a : List Nat) (n : Nat) : (ubs a).take n = ubs (a.take n) := by simp [ubs, List.map_take]
end Go.Proofs.YtmickonngpkoiaaDoor

/- The library's heap functions over the program's heap of sets, by their contracts. -/
namespace Go.Proofs.YtmickonngpkoiaaDoor
open Go.RowKit

theorem ta_bits (x : Int) (w : World) : (Instr.typeAssert (.iface 53 (.int .u8 x)) 20 53 true).run Tryd.prog w = .ok (.tuple #[.int .u8 x, .bool true]) w := by kernel_rfl

theorem Two.below {p g lo : Nat} {w w' : World} (h : Two p g w w') (hp : lo ≤ p) (hg : lo ≤ g) : Below lo w w' :=
  ⟨h.os, h.tape, h.output, Nat.le_of_eq h.size, fun k hk => h.block k (by omega) (by omega)⟩
theorem below_below {lo : Nat} {a b c : World} (h : Below lo a b) (k : Below lo b c) : Below lo a c := h.trans k
end Go.Proofs.YtmickonngpkoiaaDoor

namespace Go.Proofs.YtmickonngpkoiaaDoor
open Go.RowKit

theorem app_low {lo : Nat} {w1 w2 : World} {o : Obj} {base n : Nat} {e : TypeId} {v : Value} {xs : List Value} (hown : w1.ownsRow base e 1 v n xs) (hbase : lo ≤ base) (hlo : lo ≤ w1.heap.size) (hg : (w1.alloc o).grownBy w2 v.ownBlock) : Below lo w1 w2 :=
  ((Below.refl lo w1).alloc hlo o).grown hg (by simp; omega) (fun k hk => Nat.le_trans hbase (hown.lt k hk).1)
/-- How many sets the heap at block p holds. -/
def hlen (w : World) (p : Nat) : Nat := match w.cell? ⟨p, 0, none⟩ with | some (.slice _ n _) => n | _ => 0
/-- A family of the call's own. -/
def Fam (w : World) (lo : Nat) (K : List Nat) (e : Ending) (w' : World) : Prop :=
  ∃ A c, e = .returned (.slice A K.length c) ∧ w'.ownsRow w.heap.size 53 1 (.slice A K.length c) K.length (ubs K) ∧ Below lo w w'

end Go.Proofs.YtmickonngpkoiaaDoor

/- The heap of sets beside other memory: which blocks its functions turn. -/
namespace Go.Proofs.YtmickonngpkoiaaDoor
open Go.RowKit

/-- Of what lay before, only block p and block g have been written. -/
structure Fr (p g : Nat) (w w' : World) : Prop where
  os : w'.os = w.os
  tape : w'.tape = w.tape
  output : w'.output = w.output
  size : w.heap.size ≤ w'.heap.size
  block : ∀ i, i < w.heap.size → i ≠ p → i ≠ g → w'.heap[i]? = w.heap[i]?
theorem Fr.refl (p g : Nat) (w : World) : Fr p g w w := ⟨rfl, rfl, rfl, Nat.le_refl _, fun _ _ _ _ => rfl⟩
theorem Fr.trans {p g g' : Nat} {a b c : World} (h : Fr p g a b) (k : Fr p g' b c) (hg : g' = g ∨ a.heap.size ≤ g') : Fr p g a c :=
  ⟨k.os.trans h.os, k.tape.trans h.tape, k.output.trans h.output, Nat.le_trans h.size k.size, fun i h1 h2 h3 => (k.block i (Nat.lt_of_lt_of_le h1 h.size) h2 (by omega)).trans (h.block i h1 h2 h3)⟩
theorem Two.fr {p g : Nat} {w w' : World} (h : Two p g w w') : Fr p g w w' := ⟨h.os, h.tape, h.output, Nat.le_of_eq h.size, fun i _ h2 h3 => h.block i h2 h3⟩
theorem Fr.of_below {p g : Nat} {w w' : World} (h : Below w.heap.size w w') : Fr p g w w' := ⟨h.os, h.tape, h.output, h.size, fun i h1 _ _ => h.block i h1⟩
theorem Fr.below {p g lo : Nat} {w w' : World} (h : Fr p g w w') (hp : lo ≤ p) (hg : lo ≤ g) (hl : lo ≤ w.heap.size) : Below lo w w' :=
  ⟨h.os, h.tape, h.output, h.size, fun i hi => h.block i (by omega) (by omega) (by omega)⟩

/-- A family of the call's own; of the rest only the heap was written. -/
def FamF (w : World) (p g : Nat) (K : List Nat) (e : Ending) (w' : World) : Prop :=
  ∃ A c, e = .returned (.slice A K.length c) ∧ w'.ownsRow w.heap.size 53 1 (.slice A K.length c) K.length (ubs K) ∧ Fr p g w w'

theorem app_fr {B : Nat} {w1 w2 : World} {o : Obj} {n : Nat} {e : TypeId} {v : Value} {xs : List Value} (hown : w1.ownsRow B e 1 v n xs) (hB : B ≤ w1.heap.size) (hg : (w1.alloc o).grownBy w2 v.ownBlock) : Below B w1 w2 :=
  ⟨hg.os, hg.tape, hg.output, by have := hg.size; simp at this; omega, fun i h1 => by
    rw [hg.block i (by simp; omega) (fun e => by have := (hown.lt i e.symm).1; omega), Below.heap_alloc w1 _ i (by omega)]⟩
theorem Fr.then_ {p g : Nat} {a b c : World} (h : Fr p g a b) (k : Below a.heap.size b c) : Fr p g a c :=
  ⟨k.os.trans h.os, k.tape.trans h.tape, k.output.trans h.output, Nat.le_trans h.size k.size, fun i h1 h2 h3 => (k.block i h1).trans (h.block i h1 h2 h3)⟩

end Go.Proofs.YtmickonngpkoiaaDoor
