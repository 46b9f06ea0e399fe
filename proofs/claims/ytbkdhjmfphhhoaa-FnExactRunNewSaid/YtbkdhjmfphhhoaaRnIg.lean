/- impl.RunNew, by its contract. -/
import Derived.Test.YtbkdhjmfphhhoaaSnRg
import Derived.Test.YtbkdhjmfphhhoaaRunJg
import Derived.Test.YtbkdhjmfphhhoaaGl
namespace Go.Proofs.Ytbkdhjmfphhhoaa
open Go.RowKit

/-- What the making of a run hands back. -/
def CopyRB (w : World) (r : Rn) (b : Bool) (x : Ending) (w' : World) : Prop :=
  ∃ (A B C D : Option Addr) (c d e f : Nat), x = .returned (.tuple #[RVal A B C D c d e f r, .bool b]) ∧ ORun w' w.heap.size w'.heap.size A B C D c d e f r ∧ Below w.heap.size w w'
theorem res_impl {W : World} {b : Nat} {p q x y : Value} {t : Bool} (tmps : Array Value) (h2 : tmps.getD 2 undef = .pointer (some ⟨b, 0, none⟩)) (h3 : tmps.getD 3 undef = .bool t) (h : RB W b p q x y) :
    (results Try.f17 tmps).run Try.prog W = .ok (.tuple #[.agg #[p, q, x, y], .bool t]) W := by
  have q0 := h.c0
  have q1 := h.c1
  have q2 := h.c2
  have q3 := h.c3
  rw [results_cell_tmp rfl, h2, h3]
  go_simp
theorem nil_run (W : World) : ORun W W.heap.size W.heap.size none none none none 0 0 0 0 nilR :=
  ⟨W.heap.size, W.heap.size, W.heap.size, W.heap.size, W.heap.size, W.heap.size, Nat.le_refl _, Nat.le_refl _, Nat.le_refl _, Nat.le_refl _, Nat.le_refl _, Nat.le_refl _, Nat.le_refl _, Nat.le_refl _, Nat.le_refl _, .inl (Nat.le_refl _),
    OSS.of_rows (World.ownsRow_nil _ _ _ _) (Rws.nil _ _ _), OSS.of_rows (World.ownsRow_nil _ _ _ _) (Rws.nil _ _ _), OAS.of_new (T := 35) (World.ownsRow_nil _ _ _ _), OPS.none _ _⟩
/-- Behind the store of a run that another call made. -/
theorem copy_end {w w1 w2 : World} {b : Nat} {A B C D : Option Addr} {c d e f : Nat} {r : Rn} (hb : w.heap.size ≤ b) (h1 : b + 1 ≤ w1.heap.size) (bw : Below w.heap.size w w1) (o : ORun w2 w1.heap.size w2.heap.size A B C D c d e f r) (b2 : Below w1.heap.size w1 w2) {p q x y : Value} (k : RB w1 b p q x y) :
    RB (setR w2 b (.slice A r.P.length c) (.slice B r.Q.length d) (.slice C r.ac.length e) (.slice D r.pr.length f)) b (.slice A r.P.length c) (.slice B r.Q.length d) (.slice C r.ac.length e) (.slice D r.pr.length f) ∧
    ORun (setR w2 b (.slice A r.P.length c) (.slice B r.Q.length d) (.slice C r.ac.length e) (.slice D r.pr.length f)) w.heap.size (setR w2 b (.slice A r.P.length c) (.slice B r.Q.length d) (.slice C r.ac.length e) (.slice D r.pr.length f)).heap.size A B C D c d e f r ∧
    Below w.heap.size w (setR w2 b (.slice A r.P.length c) (.slice B r.Q.length d) (.slice C r.ac.length e) (.slice D r.pr.length f)) := by
  have kr := setR_keep w2 b (.slice A r.P.length c) (.slice B r.Q.length d) (.slice C r.ac.length e) (.slice D r.pr.length f)
  have hsz := setR_size w2 b (.slice A r.P.length c) (.slice B r.Q.length d) (.slice C r.ac.length e) (.slice D r.pr.length f)
  refine ⟨(k.below b2).setR _ _ _ _, ?_, below_keep (below_step bw b2) kr hb⟩
  rw [hsz]
  exact (o.keep kr (.inr h1)).down bw.size
theorem copy_nil {w w1 : World} {b : Nat} (hb : w.heap.size ≤ b) (bw : Below w.heap.size w w1) {p q x y : Value} (k : RB w1 b p q x y) :
    RB (setR w1 b (.slice none 0 0) (.slice none 0 0) (.slice none 0 0) (.slice none 0 0)) b (.slice none 0 0) (.slice none 0 0) (.slice none 0 0) (.slice none 0 0) ∧
    ORun (setR w1 b (.slice none 0 0) (.slice none 0 0) (.slice none 0 0) (.slice none 0 0)) w.heap.size (setR w1 b (.slice none 0 0) (.slice none 0 0) (.slice none 0 0) (.slice none 0 0)).heap.size none none none none 0 0 0 0 nilR ∧
    Below w.heap.size w (setR w1 b (.slice none 0 0) (.slice none 0 0) (.slice none 0 0) (.slice none 0 0)) := by
  have kr := setR_keep w1 b (.slice none 0 0) (.slice none 0 0) (.slice none 0 0) (.slice none 0 0)
  have bb := below_keep bw kr hb
  exact ⟨k.setR _ _ _ _, (nil_run _).down bb.size, bb⟩

set_option maxRecDepth 100000 in
set_option maxHeartbeats 1600000 in
theorem implNew_any (A B : Option Addr) (c d : Nat) (F G : List (List Int)) (w : World) (ha : ISS w A F) (hb : ISS w B G) (hF : F.length ≤ 1048576) (sF : Short F 1048576) (hG : G.length ≤ 1048576) (sG : Short G 1048576) :
    Calls Try.prog 17 #[.agg #[.slice A F.length c, .slice B G.length d]] w (CopyRB w (runNew F G) (cmpOk F G)) := by
  have ba : Below w.heap.size w ((w.alloc (.cells #[.slice A F.length c, .slice B G.length d] 25)).alloc (.cells #[.slice none 0 0, .slice none 0 0, .slice none 0 0, .slice none 0 0] 30)) := ((Below.refl _ w).alloc (Nat.le_refl _) _).alloc (by simp) _
  have rb := RB.new (w.alloc (.cells #[.slice A F.length c, .slice B G.length d] 25)) (.slice none 0 0) (.slice none 0 0) (.slice none 0 0) (.slice none 0 0) 30
  rw [World.size_alloc] at rb
  have hsa : w.heap.size + 1 + 1 ≤ ((w.alloc (.cells #[.slice A F.length c, .slice B G.length d] 25)).alloc (.cells #[.slice none 0 0, .slice none 0 0, .slice none 0 0, .slice none 0 0] 30)).heap.size := by simp
  have H := Lib.hid (And.intro ha (And.intro hb (And.intro hF (And.intro sF (And.intro hG sG)))))
  clear ha hb hF sF hG sG
  go_enter Try.func17, Try.ntmps17
  go_wp2_with fail
  refine (newI_any _ _ _ _ _ _ _ (H.out.1.below ba) (H.out.2.1.below ba) H.out.2.2.1 H.out.2.2.2.1 H.out.2.2.2.2.1 H.out.2.2.2.2.2).mono ?_
  rintro e w1 ⟨b1, ⟨hc, rfl⟩ | ⟨hc, g, rfl, hg, hI⟩⟩
  · have B1 := below_step ba b1
    have r1 := rb.below b1
    have p0 := r1.c0
    have p1 := r1.c1
    have p2 := r1.c2
    have p3 := r1.c3
    have y0 := r1.fz 0
    have y1 := r1.fz 1
    have y2 := r1.fz 2
    have y3 := r1.fz 3
    have M := Lib.hid (copy_nil (by omega) B1 r1)
    have HC := Lib.hid hc
    clear ba b1 rb hsa hc B1 r1
    go_wp2
    refine bodyPost_ret (res_impl _ rfl rfl M.out.1) rfl ?_
    rw [show runNew F G = nilR by simp [runNew, HC.out], HC.out]
    exact ⟨none, none, none, none, 0, 0, 0, 0, rfl, M.out.2.1, M.out.2.2⟩
  · have B1 := below_step ba b1
    have r1 := rb.below b1
    have s1 := Nat.le_trans hsa b1.size
    have HI := Lib.hid (And.intro hI hc)
    clear ba b1 rb hsa hI hc
    go_wp2_with fail
    refine (runI_any g (newR F G) _ HI.out.1 (by rw [newR_ok]; exact HI.out.2)).mono ?_
    rintro e w2 ⟨A2, B2, C2, D2, c2, d2, x2, f2, rfl, o2, b2⟩
    have M := Lib.hid (copy_end (by omega) s1 B1 o2 b2 r1)
    have r2 := r1.below b2
    have p0 := r2.c0
    have p1 := r2.c1
    have p2 := r2.c2
    have p3 := r2.c3
    have y0 := r2.fz 0
    have y1 := r2.fz 1
    have y2 := r2.fz 2
    have y3 := r2.fz 3
    clear B1 r1 r2 o2 b2 s1
    go_wp2
    refine bodyPost_ret (res_impl _ rfl rfl M.out.1) rfl ?_
    rw [show runNew F G = newR F G by simp [runNew, HI.out.2], HI.out.2]
    exact ⟨A2, B2, C2, D2, c2, d2, x2, f2, rfl, M.out.2.1, M.out.2.2⟩
end Go.Proofs.Ytbkdhjmfphhhoaa
