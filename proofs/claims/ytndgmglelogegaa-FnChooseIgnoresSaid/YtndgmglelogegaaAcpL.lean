/- Lists of acceptors, and the choice of a value, the program's and the model's, by their contracts. -/
import Derived.Test.YtndgmglelogegaaAcpV
namespace Go.Proofs.Ytndgmglelogegaa
open Go.RowKit

/-- The cells of a list of states. -/
def acs (l : List Ac) : List Value := l.flatMap fun x => [.int .i64 x.1, .int .i64 x.2.1, .int .i64 x.2.2]
theorem acs_nil : acs [] = [] := rfl
theorem acs_cons (x : Ac) (l : List Ac) : acs (x :: l) = .int .i64 x.1 :: .int .i64 x.2.1 :: .int .i64 x.2.2 :: acs l := rfl
theorem acs_app (l m : List Ac) : acs (l ++ m) = acs l ++ acs m := by simp [acs]
theorem acs_len (l : List Ac) : (acs l).length = l.length * 3 := by
  induction l with
  | nil => rfl
  | cons x l ih => rw [acs_cons]; simp [ih]; omega
theorem acs_at : ∀ (l : List Ac) (k : Nat) (x : Ac), l[k]? = some x → (acs l)[k * 3]? = some (.int .i64 x.1) ∧ (acs l)[k * 3 + 1]? = some (.int .i64 x.2.1) ∧ (acs l)[k * 3 + 2]? = some (.int .i64 x.2.2)
  | [], k, x, h => by simp at h
  | y :: l, 0, x, h => by simp at h; subst h; simp [acs_cons]
  | y :: l, k + 1, x, h => by
    have := acs_at l k x (by simpa using h)
    rw [acs_cons, show (k + 1) * 3 = k * 3 + 1 + 1 + 1 by omega]
    simpa using this
/-- The slice at A reads as the list l of states. -/
def AL (w : World) (A : Option Addr) (l : List Ac) : Prop :=
  l = [] ∨ ∃ b off, A = some ⟨b, off, none⟩ ∧ b < w.heap.size ∧ ∀ j u, (acs l)[j]? = some u → w.cell? ⟨b, off + j, none⟩ = some u
theorem AL.at_ {w : World} {A : Option Addr} {l : List Ac} {k : Nat} (h : AL w A l) (hk : k < l.length) :
    ∃ b off x, A = some ⟨b, off, none⟩ ∧ l[k]? = some x ∧ w.cell? ⟨b, off + k * 3, none⟩ = some (.int .i64 x.1) ∧ w.cell? ⟨b, off + k * 3 + 1, none⟩ = some (.int .i64 x.2.1) ∧ w.cell? ⟨b, off + k * 3 + 2, none⟩ = some (.int .i64 x.2.2) := by
  rcases h with rfl | ⟨b, off, rfl, _, hc⟩
  · simp at hk
  · obtain ⟨h0, h1, h2⟩ := acs_at l k l[k] (List.getElem?_eq_getElem hk)
    exact ⟨b, off, l[k], rfl, List.getElem?_eq_getElem hk, hc _ _ h0, hc _ _ h1, hc _ _ h2⟩
theorem AL.keep {w w' : World} {A : Option Addr} {l : List Ac} (h : AL w A l) (hs : w.heap.size ≤ w'.heap.size) (hb : ∀ b off, A = some ⟨b, off, none⟩ → b < w.heap.size → w'.heap[b]? = w.heap[b]?) : AL w' A l := by
  rcases h with rfl | ⟨b, off, rfl, hlt, hc⟩
  · exact .inl rfl
  · exact .inr ⟨b, off, rfl, Nat.lt_of_lt_of_le hlt hs, fun j x hx => (World.cell?_of_block (a := ⟨b, off + j, none⟩) (hb b off rfl hlt)).trans (hc j x hx)⟩
theorem AL.below {w w' : World} {A : Option Addr} {l : List Ac} (h : AL w A l) (hb : Below w.heap.size w w') : AL w' A l := h.keep hb.size fun b _ _ hlt => hb.block b hlt

/-- The highest ballot so far and its value. -/
def st1 (s : Int × Int) (x : Ac) : Int × Int := if s.1 < x.2.1 then (x.2.1, x.2.2) else s
def st (l : List Ac) (own : Int) : Int × Int := l.foldl st1 (0, own)
def allA (l : List Ac) : Bool := l.all Ac.ok
def chv (l : List Ac) (own : Int) : Int × Bool := if allA l && okV own then ((st l own).2, true) else (0, false)
theorem st_take {l : List Ac} {own : Int} {k : Nat} {x : Ac} (h : l[k]? = some x) : st (l.take (k + 1)) own = st1 (st (l.take k) own) x := by
  rw [List.take_add_one, h]
  simp [st]
theorem allA_take {l : List Ac} {k : Nat} {x : Ac} (h : l[k]? = some x) : allA (l.take (k + 1)) = (allA (l.take k) && x.ok) := by
  rw [List.take_add_one, h]
  simp [allA]
theorem allA_no {l : List Ac} {k : Nat} {x : Ac} (h : l[k]? = some x) (hx : x.ok = false) : allA l = false := by
  rw [Bool.eq_false_iff]
  intro ha
  have := List.all_eq_true.1 ha x (List.mem_of_getElem? h)
  rw [hx] at this
  cases this

theorem st_all {l : List Ac} {own : Int} {k : Nat} (h : k ≤ l.length) (h2 : ¬ k < l.length) : st (l.take k) own = st l own := by rw [List.take_of_length_le (by omega)]
set_option maxRecDepth 100000 in
set_option maxHeartbeats 1600000 in
theorem l21Choose_any (A : Option Addr) (c : Nat) (l : List Ac) (own : Int) (w : World) (ha : AL w A l) (hl : l.length ≤ 1048577) :
    Calls Try.prog 43 #[.slice A l.length c, .int .i64 own] w fun e w' => e = .returned (.int .i64 (st l own).2) ∧ w = w' := by
  obtain ⟨r, hr⟩ : ∃ r, r = (st l own).2 := ⟨_, rfl⟩
  rw [← hr]
  have HR := Lib.hid hr
  clear hr
  go_enter Try.func43, Try.ntmps43
  go_wp2
  go_loopw [1, 5, 6] (fun o h i wr => ∃ k : Nat, k ≤ l.length ∧ i = .int .i64 k ∧ h = .int .i64 (st (l.take k) own).1 ∧ o = .int .i64 (st (l.take k) own).2 ∧ w = wr) (fun _ _ i _ => l.length - (intOf i).toNat)
  case atStart => exact ⟨0, Nat.zero_le _, rfl, rfl, rfl, rfl⟩
  case round =>
    obtain ⟨k, hk, rfl, rfl, rfl, rfl⟩ := hrel
    by_cases hlt : k < l.length
    · obtain ⟨b, off, x, rfl, hx, c0, c1, c2⟩ := ha.at_ hlt
      have HT := Lib.hid (st_take (own := own) hx)
      have hki : (0 : Int) ≤ (k : Int) := by omega
      have hki2 : (k : Int) < (l.length : Int) := by omega
      clear hx
      obtain ⟨h, hh⟩ : ∃ h, h = (st (l.take k) own).1 := ⟨_, rfl⟩
      obtain ⟨o, ho⟩ : ∃ o, o = (st (l.take k) own).2 := ⟨_, rfl⟩
      rw [← hh, ← ho]
      have HS := Lib.hid (show st (l.take k) own = (h, o) by rw [hh, ho])
      clear hh ho
      by_cases hc : h < x.2.1
      · have E := Lib.hid (show st (l.take (k + 1)) own = (x.2.1, x.2.2) by rw [HT.out, HS.out, st1, if_pos hc])
        clear HT HS
        go_wp2
        go_roundw
        case rel => exact ⟨k + 1, by omega, by go_num, by rw [E.out], by rw [E.out], trivial⟩
        case measure => simp [intOf]; omega
      · have E := Lib.hid (show st (l.take (k + 1)) own = (h, o) by rw [HT.out, HS.out, st1, if_neg hc])
        clear HT HS
        go_wp2
        go_roundw
        case rel => exact ⟨k + 1, by omega, by go_num, by rw [E.out], by rw [E.out], trivial⟩
        case measure => simp [intOf]; omega
    · have E := Lib.hid (show (st (l.take k) own).2 = r by rw [st_all hk hlt, HR.out])
      have hkl : k = l.length := by omega
      rw [E.out]
      generalize (st (l.take k) own).1 = h at *
      clear HR E
      subst hkl
      go_wp2
      go_ret
      exact ⟨rfl, rfl⟩

/-- What the choice of a value hands back. -/
def Chose (w : World) (r : Int × Bool) (e : Ending) (w' : World) : Prop := e = .returned (.tuple #[.int .i64 r.1, .bool r.2]) ∧ Below w.heap.size w w'
theorem allA_full {l : List Ac} {k : Nat} (h : ¬ k < l.length) (ha : allA (l.take k) = true) : allA l = true := by rwa [List.take_of_length_le (by omega)] at ha
theorem chv_bad {l : List Ac} {own : Int} {k : Nat} {x : Ac} (h : l[k]? = some x) (hx : x.ok = false) : chv l own = (0, false) := by simp [chv, allA_no h hx]
theorem chv_own {l : List Ac} {own : Int} (h : okV own = false) : chv l own = (0, false) := by simp [chv, h]
theorem chv_good {l : List Ac} {own : Int} (h : okV own = true) (ha : allA l = true) : chv l own = ((st l own).2, true) := by simp [chv, h, ha]

set_option maxRecDepth 100000 in
set_option maxHeartbeats 3200000 in
theorem sChoose_any (A : Option Addr) (c : Nat) (l : List Ac) (own : Int) (w : World) (ha : AL w A l) (hl : l.length ≤ 1048577) :
    Calls Try.prog 25 #[.slice A l.length c, .int .i64 own] w (Chose w (chv l own)) := by
  obtain ⟨⟨r, t⟩, hr⟩ : ∃ r, r = chv l own := ⟨_, rfl⟩
  rw [← hr]
  have HR := Lib.hid hr
  clear hr
  go_enter Try.func25, Try.ntmps25
  go_wp2
  go_loopw [6] (fun i wr => ∃ k : Nat, k ≤ l.length ∧ i = .int .i64 k ∧ Hid (allA (l.take k) = true) ∧ Below w.heap.size w wr) (fun i _ => l.length - (intOf i).toNat)
  case atStart => exact ⟨0, Nat.zero_le _, rfl, (by show allA _ = true; rfl), Below.refl _ w⟩
  case round =>
    obtain ⟨k, hk, rfl, hal, hbel⟩ := hrel
    by_cases hlt : k < l.length
    · obtain ⟨b, off, x, rfl, hx, c0, c1, c2⟩ := (ha.below hbel).at_ hlt
      have HT := Lib.hid (allA_take hx)
      have HX := Lib.hid hx
      have hki : (0 : Int) ≤ (k : Int) := by omega
      have hki2 : (k : Int) < (l.length : Int) := by omega
      clear hx
      obtain ⟨x0, x1, x2⟩ := x
      go_wp2_with fail
      refine (spcValid_any x0 x1 x2 _).mono ?_
      rintro e w2 ⟨rfl, b2⟩
      have HB := Lib.hid (below_step hbel b2)
      clear hbel b2
      by_cases hok : okA x0 x1 x2 = true
      · have E := Lib.hid (show allA (l.take (k + 1)) = true by rw [HT.out, hal.out]; simpa [Ac.ok] using hok)
        rw [hok]
        clear HT HX hal
        go_wp2
        go_roundw
        case rel => exact ⟨k + 1, by omega, by go_num, E, HB.out⟩
        case measure => simp [intOf]; omega
      · rw [Bool.not_eq_true] at hok
        have E := Lib.hid (HR.out.trans (chv_bad (own := own) HX.out (by simpa [Ac.ok] using hok)))
        rw [hok]
        have e1 := E.out
        injection e1 with e1 e2
        subst e1; subst e2
        clear HT HX hal HR E
        go_wp2
        go_ret2
        exact ⟨rfl, HB.out⟩
    · have hkl : k = l.length := by omega
      have hA := Lib.hid (allA_full hlt hal.out)
      have ha' := ha.below hbel
      clear hal ha
      subst hkl
      by_cases hv : okV own = true
      · have E := Lib.hid (HR.out.trans (chv_good hv hA.out))
        have e1 := E.out
        injection e1 with e1 e2
        subst e2
        have E1 := Lib.hid e1
        clear e1 HR E
        go_wp2_with fail
        refine (l21Value_any _ _).mono ?_
        rintro e w2 ⟨rfl, rfl⟩
        rw [hv]
        go_wp2_with fail
        refine (l21Choose_any _ _ _ _ _ ha' hl).mono ?_
        rintro e w2 ⟨rfl, rfl⟩
        rw [← E1.out]
        clear ha'
        go_wp2
        go_ret2
        exact ⟨rfl, hbel⟩
      · rw [Bool.not_eq_true] at hv
        have E := Lib.hid (HR.out.trans (chv_own (l := l) hv))
        have e1 := E.out
        injection e1 with e1 e2
        subst e1; subst e2
        clear HR E
        go_wp2_with fail
        refine (l21Value_any _ _).mono ?_
        rintro e w2 ⟨rfl, rfl⟩
        rw [hv]
        clear ha'
        go_wp2
        go_ret2
        exact ⟨rfl, hbel⟩
set_option maxRecDepth 100000 in
set_option maxHeartbeats 3200000 in
theorem iChoose_any (A : Option Addr) (c : Nat) (l : List Ac) (own : Int) (w : World) (ha : AL w A l) (hl : l.length ≤ 1048577) :
    Calls Try.prog 26 #[.slice A l.length c, .int .i64 own] w (Chose w (chv l own)) := by
  obtain ⟨⟨r, t⟩, hr⟩ : ∃ r, r = chv l own := ⟨_, rfl⟩
  rw [← hr]
  by_cases hv : okV own = true
  · have HR := Lib.hid hr
    clear hr
    go_enter Try.func26, Try.ntmps26
    go_wp2_with fail
    refine (isValue_any _ _).mono ?_
    rintro e w1 ⟨rfl, rfl⟩
    rw [hv]
    go_wp2
    go_loopw [6, 7, 16] (fun h o i wr => ∃ k : Nat, k ≤ l.length ∧ i = .int .i64 k ∧ h = .int .i64 (st (l.take k) own).1 ∧ o = .int .i64 (st (l.take k) own).2 ∧ Hid (allA (l.take k) = true) ∧ Below w.heap.size w wr) (fun _ _ i _ => l.length - (intOf i).toNat)
    case atStart => exact ⟨0, Nat.zero_le _, rfl, rfl, rfl, (by show allA _ = true; rfl), Below.refl _ w⟩
    case round =>
      obtain ⟨k, hk, rfl, rfl, rfl, hal, hbel⟩ := hrel
      by_cases hlt : k < l.length
      · obtain ⟨b, off, x, rfl, hx, c0, c1, c2⟩ := (ha.below hbel).at_ hlt
        have HT := Lib.hid (And.intro (allA_take hx) (st_take (own := own) hx))
        have HX := Lib.hid hx
        have hki : (0 : Int) ≤ (k : Int) := by omega
        have hki2 : (k : Int) < (l.length : Int) := by omega
        clear hx
        obtain ⟨x0, x1, x2⟩ := x
        obtain ⟨h, hh⟩ : ∃ h, h = (st (l.take k) own).1 := ⟨_, rfl⟩
        obtain ⟨o, ho⟩ : ∃ o, o = (st (l.take k) own).2 := ⟨_, rfl⟩
        rw [← hh, ← ho]
        have HS := Lib.hid (show st (l.take k) own = (h, o) by rw [hh, ho])
        clear hh ho
        go_wp2_with fail
        refine (impValid_any x0 x1 x2 _).mono ?_
        rintro e w2 ⟨rfl, b2⟩
        have N := Lib.hid ((AF3.new wr x0 x1 x2 24).below b2)
        have HB := Lib.hid (below_step (hbel.alloc hbel.size _) b2)
        clear hbel b2 c0 c1 c2
        by_cases hok : okA x0 x1 x2 = true
        · have EA := Lib.hid (show allA (l.take (k + 1)) = true by rw [HT.out.1, hal.out]; simpa [Ac.ok] using hok)
          rw [hok]
          obtain ⟨c0, c1, c2⟩ := cells3 N.out.ab
          by_cases hc : h < x1
          · have E := Lib.hid (show st (l.take (k + 1)) own = (x1, x2) by rw [HT.out.2, HS.out, st1, if_pos hc])
            clear HT HS HX hal
            go_wp2
            go_quiet (fail)
            go_wp2
            go_roundw
            case rel => exact ⟨k + 1, by omega, by go_num, by rw [E.out], by rw [E.out], EA, below_drewN HB.out _⟩
            case measure => simp [intOf]; omega
          · have E := Lib.hid (show st (l.take (k + 1)) own = (h, o) by rw [HT.out.2, HS.out, st1, if_neg hc])
            clear HT HS HX hal
            go_wp2
            go_roundw
            case rel => exact ⟨k + 1, by omega, by go_num, by rw [E.out], by rw [E.out], EA, HB.out⟩
            case measure => simp [intOf]; omega
        · rw [Bool.not_eq_true] at hok
          have E := Lib.hid (HR.out.trans (chv_bad (own := own) HX.out (by simpa [Ac.ok] using hok)))
          rw [hok]
          have e1 := E.out
          injection e1 with e1 e2
          subst e1; subst e2
          clear HT HX hal HR E HS
          go_wp2
          go_ret2
          exact ⟨rfl, HB.out⟩
      · have hkl : k = l.length := by omega
        have hA := Lib.hid (allA_full hlt hal.out)
        have E := Lib.hid (HR.out.trans (chv_good hv hA.out))
        have e1 := E.out
        injection e1 with e1 e2
        subst e2
        rw [st_all hk hlt, ← e1]
        generalize (st l own).1 = h at *
        clear hal ha e1 HR E hA
        subst hkl
        go_wp2
        go_ret2
        exact ⟨rfl, hbel⟩
  · rw [Bool.not_eq_true] at hv
    have e1 := hr.trans (chv_own (l := l) hv)
    injection e1 with e1 e2
    subst e1; subst e2
    clear hr
    go_enter Try.func26, Try.ntmps26
    go_wp2_with fail
    refine (isValue_any _ _).mono ?_
    rintro e w1 ⟨rfl, rfl⟩
    rw [hv]
    clear ha
    go_wp2
    go_ret2
    exact ⟨rfl, Below.refl _ w⟩
end Go.Proofs.Ytndgmglelogegaa
