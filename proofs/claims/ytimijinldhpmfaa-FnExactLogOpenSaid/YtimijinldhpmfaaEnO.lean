/- Log entries as arguments: one, and a slice of them, as the row's opening gives them. -/
import Derived.Test.YtimijinldhpmfaaEnA
import Derived.Deep.Slices
import Derived.Deep.Fields
import Derived.Lib.SmallJoins
namespace Go.Proofs.Ytimijinldhpmfaa
open Go.RowKit Go.Deep Go.ChangeShapes Go.WideShapes Go.Joins

theorem ens_some {l : List En} {j : Nat} {u : Value} (h : (ens l)[j]? = some u) :
    ∃ k x, l[k]? = some x ∧ ((j = k * 2 ∧ u = .int .i64 x.1) ∨ (j = k * 2 + 1 ∧ u = .int .i64 x.2)) := by
  have hj : j < l.length * 2 := by rw [← ens_len]; exact (List.getElem?_eq_some_iff.1 h).1
  have hk : j / 2 < l.length := by omega
  have hx : l[j / 2]? = some l[j / 2] := List.getElem?_eq_getElem hk
  obtain ⟨h0, h1⟩ := ens_at l (j / 2) _ hx
  refine ⟨j / 2, _, hx, ?_⟩
  have : j = j / 2 * 2 ∨ j = j / 2 * 2 + 1 := by omega
  rcases this with e | e
  · rw [← e, h] at h0; exact .inl ⟨e, Option.some.inj h0⟩
  · rw [← e, h] at h1; exact .inr ⟨e, Option.some.inj h1⟩

section
variable {H : Type} {enc : TypeId × Value → H} {w : World} {base : Nat} {spare : Nat → Bool} {held : Bool}
set_option maxRecDepth 100000 in
theorem en_of_arg {r : Reach} {b0 : Nat} {v : Value} {d : DataW H} {p : List MemPlace} (hv : Value.okWide Try.prog w r b0 47 v) (h : DataW.Trod enc Try.prog w base spare held 47 v d p) :
    ∃ a b : Int, v = .agg #[.int .i64 a, .int .i64 b] := by
  obtain ⟨v0, v1, y0, y1, n, rfl, _, _, h0, h1⟩ := open_agg2 Try.underlying47 (by kernel_rfl) (by kernel_rfl) hv h
  obtain ⟨x0, e0, _⟩ := DataW.trod_int Try.underlying3 h0
  obtain ⟨x1, e1, _⟩ := DataW.trod_int Try.underlying3 h1
  injection e0 with e0; injection e1 with e1
  subst e0; subst e1
  exact ⟨x0, x1, rfl⟩
set_option maxRecDepth 100000 in
theorem enl_of_arg {fuel : Nat} {a : Option Addr} {len cap : Nat} {x : DataW H × List MemPlace} (h : DataW.trod enc Try.prog w base spare held fuel 42 (Value.cells (.slice a len cap)).toList = some x) :
    ∃ l : List En, l.length = len ∧ len ≤ maxLen ∧ EnL w a l := by
  rcases open_slice Try.underlying42 h with ⟨hcs, _⟩ | ⟨a', len', cap', m, n, D, Pl, hcs, _, hl, hm, hmm, _, hi⟩
  · simp [Value.cells] at hcs
    obtain ⟨rfl, rfl, rfl⟩ := hcs
    exact ⟨[], rfl, Nat.zero_le _, .inl rfl⟩
  · simp [Value.cells] at hcs
    obtain ⟨rfl, rfl, rfl⟩ := hcs
    have hC : Try.prog.cellsOf 47 = 2 := by kernel_rfl
    have hCi : Try.prog.cellsOf 3 = 1 := by kernel_rfl
    have hlm : len ≤ m := by rw [hmm]; split <;> omega
    have key : ∀ i, ∃ y : En, i < len → w.cell? (a'.add (i * 2)) = some (.int .i64 y.1) ∧ w.cell? (a'.add (i * 2 + 1)) = some (.int .i64 y.2) := by
      intro i
      by_cases hlt : i < len
      · obtain ⟨cs', hc, ht⟩ := hi i (by omega)
        rw [hC] at hc
        obtain ⟨_, hcl, hat⟩ := World.cells?_some hc
        obtain ⟨ys, n', _, _, _, hyl, hf⟩ := DataW.trod_struct Try.underlying47 ht
        match cs', hcl with
        | [u0, u1], _ =>
          have h0 : DataW.trod enc Try.prog w base spare held n' 3 (([u0, u1].drop 0).take (Try.prog.cellsOf 3)) = ys[0]? := hf 0 _ rfl
          have h1 : DataW.trod enc Try.prog w base spare held n' 3 (([u0, u1].drop 1).take (Try.prog.cellsOf 3)) = ys[1]? := hf 1 _ rfl
          rw [hCi] at h0 h1
          match ys, hyl with
          | [y0, y1], _ =>
            obtain ⟨x0, e0, _⟩ := DataW.trod_int Try.underlying3 h0
            obtain ⟨x1, e1, _⟩ := DataW.trod_int Try.underlying3 h1
            simp at e0 e1
            have a0 := hat 0 (by omega)
            have a1 := hat 1 (by omega)
            rw [Go.Deep.add_add] at a0 a1
            exact ⟨(x0, x1), fun _ => ⟨by simpa [e0] using a0, by simpa [e1] using a1⟩⟩
      · exact ⟨(0, 0), fun h => absurd h hlt⟩
    obtain ⟨f, hf⟩ := Classical.axiomOfChoice key
    refine ⟨(List.range len).map f, by simp, Nat.le_trans hl hm, ?_⟩
    rcases Nat.eq_zero_or_pos len with h0 | h0
    · subst h0; left; simp
    · right
      obtain ⟨b, off, spot⟩ := a'
      have hspot : spot = none := by simpa [Addr.add] using World.cell?_spot (hf 0 h0).1
      subst hspot
      refine ⟨b, off, rfl, World.block_lt_of_cell? w _ (hf 0 h0).1, fun j u hu => ?_⟩
      obtain ⟨k, y, hk, hy⟩ := ens_some hu
      have hkl : k < len := by simpa using (List.getElem?_eq_some_iff.1 hk).1
      have hyf : y = f k := by simp [hkl] at hk; exact hk.symm
      subst hyf
      obtain ⟨c0, c1⟩ := hf k hkl
      rw [Addr.add_lit] at c0 c1
      rcases hy with ⟨rfl, rfl⟩ | ⟨rfl, rfl⟩
      · exact c0
      · exact c1
end
end Go.Proofs.Ytimijinldhpmfaa
