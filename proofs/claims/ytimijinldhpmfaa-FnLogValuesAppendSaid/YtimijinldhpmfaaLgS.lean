/- Logs: the model's functions, by their contracts. -/
import Derived.Test.YtimijinldhpmfaaLgK
import Derived.Laws.AppendOwnNone
namespace Go.Proofs.Ytimijinldhpmfaa
open Go.RowKit

theorem wpList_append_two {P : Program} (w : World) {ops : Array Oper} {rest : List Oper} {o : Oper} {a : Act} {Q : Exit → Act → World → Prop} (hgd : o.guard = none) (s x : Operand) (t : TypeId)
    (ho : o.op = .call { callee := .builtin .append, args := #[s, x], argTypes := #[t, t] })
    (base : Nat) (e : TypeId) (i : TypeInfo) (z : Value) (bytes : Nat) (ht : P.underlying t = some (.slice e)) (hi : P.info? e = some i) (hz : i.zero = some z)
    (hsize : i.size = 2) (hby : i.bytes = bytes) (hzs : z.cells.size = 2)
    (v : Value) (n : Nat) (xs : List Value) (hs : a.eval s = v) (hown : w.ownsRow base e 2 v n xs)
    (A : Option Addr) (m c : Nat) (news : List Value) (hA : A = none → m = 0 ∧ c = 0) (hx : a.eval x = .slice A m c) (hl : news.length = m * 2) (hnews : ∀ ad, A = some ad → ∀ j u, news[j]? = some u → w.cell? (ad.add j) = some u) (h1 : ∀ u ∈ news, u.oneCell' = true)
    (h63 : n + m ≤ maxLen) (hbytes : (n + m) * bytes ≤ 140737488355328) (hbase : base ≤ w.heap.size)
    (h : ∀ v' w', w'.ownsRow base e 2 v' (n + m) (xs ++ news) → w.grownBy w' v.ownBlock → wpList P ops Q rest (a.put o.dst v') w') : wpList P ops Q (o :: rest) a w := by
  cases A with
  | none =>
    obtain ⟨rfl, rfl⟩ := hA rfl
    have hn : news = [] := List.eq_nil_of_length_eq_zero (by simpa using hl)
    subst hn
    refine wpList_append_own_none hgd s x t ho base e i 2 ht hi v n xs hs hown hx (h v w ?_ ⟨rfl, rfl, rfl, Nat.le_refl _, fun _ _ _ => rfl⟩)
    simpa using hown
  | some ad => exact wpList_append_own w hgd s x t ho base e i z 2 bytes ht hi hz hsize hby hzs (by decide) v n xs hs hown ad m c news hx hl (hnews ad rfl) h1 h63 hbytes hbase fun v' w' h2 h3 _ => h v' w' h2 h3
theorem EnL.news {w : World} {A : Option Addr} {l : List En} (h : EnL w A l) : ∀ ad, A = some ad → ∀ j u, (ens l)[j]? = some u → w.cell? (ad.add j) = some u := by
  intro ad hA j u hu
  rcases h with rfl | ⟨b, off, e, _, hc⟩
  · simp [ens] at hu
  · subst e
    injection hA with hA
    subst hA
    rw [Addr.add_lit]
    exact hc j u hu

set_option maxRecDepth 100000 in
set_option maxHeartbeats 800000 in
theorem sEntry_any (x : En) (n : Int) (w : World) :
    Calls Try.prog 56 #[.agg #[.int .i64 x.1, .int .i64 x.2], .int .i64 n] w fun e w' => e = .returned (.bool (okE n x)) ∧ Below w.heap.size w w' := by
  obtain ⟨a, b⟩ := x
  have B0 := (Below.refl _ w).alloc (Nat.le_refl _) (.cells #[.int .i64 a, .int .i64 b] 28)
  have N := Lib.hid (AFEn.new w (a, b) 28)
  obtain ⟨c0, c1⟩ := N.out.c
  simp only at c0 c1
  by_cases hb : b = 0
  · rw [okE_cmd hb]
    subst hb
    go_enter Try.func56, Try.ntmps56
    go_wp2_with fail
    refine (l21Value_any a _).mono ?_
    rintro e w2 ⟨rfl, rfl⟩
    go_wp2
    go_ret
    exact ⟨rfl, B0⟩
  · rw [okE_chg hb]
    have hb2 : (b == 0) = false := by simpa using hb
    obtain ⟨t, ht⟩ : ∃ t, t = decide (a = 0 ∧ 1 ≤ b ∧ b ≤ n) := ⟨_, rfl⟩
    rw [← ht]
    have HT := Lib.hid ht
    clear ht hb
    by_cases ha : a = 0
    · subst ha
      go_enter Try.func56, Try.ntmps56
      go_wp2_with fail
      refine (l6In_any _ _ _ _).mono ?_
      rintro e w2 ⟨rfl, rfl⟩
      rw [show decide (1 ≤ b ∧ b ≤ n) = t by rw [HT.out]; simp]
      go_wp2
      go_ret
      exact ⟨rfl, B0⟩
    · have e0 : (a == 0) = false := by simpa using ha
      obtain rfl : t = false := by rw [HT.out]; simp [ha]
      clear ha HT
      go_enter Try.func56, Try.ntmps56
      go_wp2
      go_ret
      exact ⟨rfl, B0⟩

set_option maxRecDepth 100000 in
set_option maxHeartbeats 1600000 in
theorem sLogValid_any (A : Option Addr) (c : Nat) (l : List En) (n : Int) (w : World) (ha : EnL w A l) (hl : l.length ≤ 1048577) :
    Calls Try.prog 26 #[.slice A l.length c, .int .i64 n] w fun e w' => e = .returned (.bool (okL l n)) ∧ Below w.heap.size w w' := by
  obtain ⟨t, ht⟩ : ∃ t, t = okL l n := ⟨_, rfl⟩
  have HT := Lib.hid ht
  rw [← ht]
  have H0 := Lib.hid ha
  clear ht ha
  go_enter Try.func26, Try.ntmps26
  go_wp2
  go_loopw [5] (fun i wr => ∃ k : Nat, k ≤ l.length ∧ i = .int .i64 k ∧ Hid (allE n (l.take k) = true) ∧ Below w.heap.size w wr) (fun i _ => l.length - (intOf i).toNat)
  case atStart => exact ⟨0, Nat.zero_le _, rfl, (by show allE n _ = true; rfl), Below.refl _ w⟩
  case round =>
    obtain ⟨k, hk, rfl, hal, hbel⟩ := hrel
    by_cases hlt : k < l.length
    · obtain ⟨b, off, x, rfl, hx, c0, c1⟩ := (H0.out.below hbel).at_ hlt
      have HX := Lib.hid hx
      have hki : (0 : Int) ≤ (k : Int) := by omega
      have hki2 : (k : Int) < (l.length : Int) := by omega
      clear hx
      go_wp2_with fail
      refine (sEntry_any x n _).mono ?_
      rintro e w2 ⟨rfl, b2⟩
      have HB := Lib.hid (below_step hbel b2)
      clear hbel b2 c0 c1
      by_cases hok : okE n x = true
      · have E := Lib.hid (show allE n (l.take (k + 1)) = true by rw [allE_take HX.out, hal.out, hok]; rfl)
        rw [hok]
        clear HX hal hok
        go_wp2
        go_roundw
        case rel => exact ⟨k + 1, by omega, by go_num, E, HB.out⟩
        case measure => simp [intOf]; omega
      · rw [Bool.not_eq_true] at hok
        obtain rfl : t = false := HT.out.trans (okL_no HX.out hok)
        rw [hok]
        clear HT HX hal hok
        go_wp2
        go_ret
        exact ⟨rfl, HB.out⟩
    · have hkl : k = l.length := by omega
      subst hkl
      have hA := Lib.hid (show allE n l = true by have := hal.out; rwa [List.take_length] at this)
      clear hal H0
      go_wp2_with fail
      refine (l6In_any _ _ _ _).mono ?_
      rintro e w2 ⟨rfl, rfl⟩
      by_cases hN : okN n = true
      · rw [show decide (1 ≤ n ∧ n ≤ 5) = true from hN]
        by_cases h12 : l.length ≤ 12
        · have e3 : decide ((l.length : Int) ≤ 12) = true := by simp; omega
          obtain rfl : t = true := HT.out.trans (okL_yes hA.out hN h12)
          clear h12 hN HT
          go_wp2
          go_ret
          exact ⟨rfl, hbel⟩
        · have e3 : decide ((l.length : Int) ≤ 12) = false := by simp; omega
          obtain rfl : t = false := HT.out.trans (okL_big h12)
          clear h12 hN HT
          go_wp2
          go_ret
          exact ⟨rfl, hbel⟩
      · rw [Bool.not_eq_true] at hN
        obtain rfl : t = false := HT.out.trans (okL_n hN)
        rw [show decide (1 ≤ n ∧ n ≤ 5) = false from hN]
        clear hN HT
        go_wp2
        go_ret
        exact ⟨rfl, hbel⟩

set_option maxRecDepth 100000 in
set_option maxHeartbeats 1600000 in
theorem sConf_any (A : Option Addr) (c : Nat) (l : List En) (s : Int) (w : World) (ha : EnL w A l) (hl : l.length ≤ 1048577) :
    Calls Try.prog 51 #[.slice A l.length c, .int .i64 s] w fun e w' => e = .returned (.int .i64 (conf l s)) ∧ w = w' := by
  obtain ⟨t, ht⟩ : ∃ t, t = conf l s := ⟨_, rfl⟩
  have HT := Lib.hid ht
  rw [← ht]
  have H0 := Lib.hid ha
  clear ht ha
  go_enter Try.func51, Try.ntmps51
  go_wp2
  go_loopw [5, 6] (fun v i wr => ∃ k : Nat, k ≤ l.length ∧ i = .int .i64 k ∧ v = .int .i64 (pre (l.take k)) ∧ ((k : Int) + 1 ≤ s ∨ k = 0) ∧ w = wr) (fun _ i _ => l.length - (intOf i).toNat)
  case atStart => exact ⟨0, Nat.zero_le _, rfl, (by simp [pre]), .inr rfl, rfl⟩
  case round =>
    obtain ⟨k, hk, rfl, rfl, hks, rfl⟩ := hrel
    by_cases hgo : k < l.length ∧ (k : Int) + 2 ≤ s
    · obtain ⟨hlt, hs⟩ := hgo
      obtain ⟨b, off, x, rfl, hx, c0, c1⟩ := H0.out.at_ hlt
      have HX := Lib.hid (pre_take hx)
      have hki : (0 : Int) ≤ (k : Int) := by omega
      have hki2 : (k : Int) < (l.length : Int) := by omega
      have e2 : decide ((k : Int) + 2 ≤ s) = true := by simpa using hs
      have HS := Lib.hid hs
      obtain ⟨x0, x1⟩ := x
      simp only at c0 c1
      clear hx hs hks
      obtain ⟨p, hp⟩ : ∃ p, p = pre (l.take k) := ⟨_, rfl⟩
      rw [← hp]
      by_cases h0 : 0 < x1
      · have e3 : decide (0 < x1) = true := by simpa using h0
        have E := Lib.hid (show pre (l.take (k + 1)) = x1 by rw [HX.out, pre1, if_pos h0])
        clear HX h0 hp
        go_wp2
        go_roundw
        case rel => exact ⟨k + 1, by omega, by go_num, by rw [E.out], .inl (by have := HS.out; omega), trivial⟩
        case measure => simp [intOf]; omega
      · have e3 : decide (0 < x1) = false := by simpa using h0
        have E := Lib.hid (show pre (l.take (k + 1)) = p by rw [HX.out, pre1, if_neg h0, ← hp])
        clear HX h0 hp
        go_wp2
        go_roundw
        case rel => exact ⟨k + 1, by omega, by go_num, by rw [E.out], .inl (by have := HS.out; omega), trivial⟩
        case measure => simp [intOf]; omega
    · rw [show pre (l.take k) = t from (conf_end hk hks hgo).trans HT.out.symm]
      clear HT
      by_cases hlt : k < l.length
      · have e1 : decide ((k : Int) < (l.length : Int)) = true := by simp; omega
        have e2 : decide ((k : Int) + 2 ≤ s) = false := by simp; omega
        clear hgo hks H0
        go_wp2
        go_ret
        exact ⟨rfl, rfl⟩
      · have e1 : decide ((k : Int) < (l.length : Int)) = false := by simp; omega
        clear hgo hks H0
        go_wp2
        go_ret
        exact ⟨rfl, rfl⟩

theorem lconf_no {l : List En} {n s : Int} (h : okL l n = false ∨ ¬ (0 ≤ s ∧ s ≤ (l.length : Int) + 1)) : lconf l n s = 0 := by
  rw [lconf, if_neg]
  intro h2
  rcases h with h | h
  · rw [h] at h2; cases h2.1
  · exact h h2.2
set_option maxRecDepth 100000 in
set_option maxHeartbeats 1600000 in
theorem sLogConfig_any (A : Option Addr) (c : Nat) (l : List En) (n s : Int) (w : World) (ha : EnL w A l) (hl : l.length ≤ 1048577) :
    Calls Try.prog 20 #[.slice A l.length c, .int .i64 n, .int .i64 s] w fun e w' => e = .returned (.int .i64 (lconf l n s)) ∧ Below w.heap.size w w' := by
  obtain ⟨t, ht⟩ : ∃ t, t = lconf l n s := ⟨_, rfl⟩
  have HT := Lib.hid ht
  rw [← ht]
  have H0 := Lib.hid ha
  clear ht ha
  go_enter Try.func20, Try.ntmps20
  go_wp2_with fail
  refine (sLogValid_any _ _ _ _ _ H0.out hl).mono ?_
  rintro e w1 ⟨rfl, b1⟩
  by_cases hok : okL l n = true
  · rw [hok]
    have HO := Lib.hid hok
    clear hok
    go_wp2_with fail
    refine (l6In_any _ _ _ _).mono ?_
    rintro e w2 ⟨rfl, rfl⟩
    by_cases hs : 0 ≤ s ∧ s ≤ (l.length : Int) + 2 - 1
    · rw [show decide (0 ≤ s ∧ s ≤ (l.length : Int) + 2 - 1) = true by simpa using hs]
      have E := Lib.hid (show conf l s = t from (HT.out.trans (by rw [lconf, if_pos ⟨HO.out, hs.1, by omega⟩])).symm)
      clear hs HT
      go_wp2_with fail
      refine (sConf_any _ _ _ _ _ (H0.out.below b1) hl).mono ?_
      rintro e w3 ⟨rfl, rfl⟩
      rw [E.out]
      go_wp2
      go_ret
      exact ⟨rfl, b1⟩
    · rw [show decide (0 ≤ s ∧ s ≤ (l.length : Int) + 2 - 1) = false by simpa using hs]
      obtain rfl : t = 0 := HT.out.trans (lconf_no (.inr (by omega)))
      clear hs HT
      go_wp2
      go_ret
      exact ⟨rfl, b1⟩
  · rw [Bool.not_eq_true] at hok
    obtain rfl : t = 0 := HT.out.trans (lconf_no (.inl hok))
    rw [hok]
    clear hok HT
    go_wp2
    go_ret
    exact ⟨rfl, b1⟩

set_option maxRecDepth 100000 in
set_option maxHeartbeats 1600000 in
theorem sLogAppend_any (A : Option Addr) (c : Nat) (l : List En) (n : Int) (x : En) (w : World) (ha : EnL w A l) (hA : A = none → l.length = 0 ∧ c = 0) (hl : l.length ≤ 1048577) :
    Calls Try.prog 28 #[.slice A l.length c, .int .i64 n, .agg #[.int .i64 x.1, .int .i64 x.2]] w (Ent2 w (lapp l n x).1 (lapp l n x).2) := by
  obtain ⟨i0, hi0, hz0, hz1, hz2⟩ := info_parts en_info
  obtain ⟨⟨m, t⟩, hr⟩ : ∃ r, r = lapp l n x := ⟨_, rfl⟩
  have HR := Lib.hid hr
  rw [← hr]
  clear hr
  obtain ⟨x0, x1⟩ := x
  have B0 := (Below.refl _ w).alloc (Nat.le_refl _) (.cells #[.int .i64 x0, .int .i64 x1] 28)
  have N := Lib.hid (AFEn.new w (x0, x1) 28)
  have H0 := Lib.hid (ha.below B0)
  have HA := Lib.hid hA
  clear ha hA
  go_enter Try.func28, Try.ntmps28
  go_wp2_with fail
  refine (sLogValid_any _ _ _ _ _ H0.out hl).mono ?_
  rintro e w1 ⟨rfl, b1⟩
  have B1 := below_step B0 b1
  have H1 := Lib.hid (H0.out.below b1)
  have N1 := Lib.hid (N.out.below b1)
  obtain ⟨c0, c1⟩ := N1.out.c
  simp only at c0 c1
  clear B0 b1 N H0
  by_cases hok : okL l n = true
  · have HL := (okL_parts hok).2.2
    have HO := Lib.hid hok
    rw [hok]
    clear hok
    go_wp2_with fail
    refine (sEntry_any (x0, x1) n _).mono ?_
    rintro e w2 ⟨rfl, b2⟩
    have B2 := below_step B1 b2
    have H2 := Lib.hid (H1.out.below b2)
    have N2 := Lib.hid (N1.out.below b2)
    obtain ⟨d0, d1⟩ := N2.out.c
    simp only at d0 d1
    clear B1 b2 c0 c1 H1 N1
    by_cases hx : okE n (x0, x1) = true
    · have HX := Lib.hid hx
      rw [hx]
      clear hx
      have o0 : (w2.alloc (.cells #[] 28)).ownsRow w2.heap.size 28 2 (.slice (some ⟨w2.heap.size, 0, none⟩) 0 0) 0 [] := World.ownsRow_made w2 #[] 0 (Nat.le_refl _) (by unfold maxLen; omega) (by simp)
      have k2 := (Below.refl _ w2).alloc (Nat.le_refl _) (.cells #[] 28)
      have H3 := Lib.hid (H2.out.below k2).news
      have HC := Lib.hid (ens_cells l)
      have HCL := Lib.hid (ens_len l)
      have B3 := Lib.hid (below_step B2 k2)
      have hsz3 : w2.heap.size ≤ (w2.alloc (.cells #[] 28)).heap.size := by simp
      clear k2 d0 d1
      go_wp2_with (at_builtin; refine wpList_append_two _ rfl (.tmp 20) (.tmp 21) 23 rfl w2.heap.size 28 i0 (.agg #[.int .i64 0, .int .i64 0]) 16 Try.underlying23 hi0 hz0 hz1 hz2 rfl _ _ _ rfl o0 A l.length c (ens l) HA.out rfl HCL.out H3.out HC.out (by unfold maxLen; omega) (by omega) hsz3 ?_)
      intro v1 w3 ho3 hg3
      have ho3 : w3.ownsRow w2.heap.size 28 2 v1 l.length (ens l) := by simpa using ho3
      obtain ⟨A3, c3, rfl, p3⟩ := en_own rfl ho3
      have B4 := Lib.hid (show Below w2.heap.size w2 w3 from ((Below.refl _ w2).alloc (Nat.le_refl _) _).grown hg3 (by simp) (fun k hk => by cases hk; exact Nat.le_refl _))
      have N3 := Lib.hid (N2.out.below B4.out)
      obtain ⟨d0, d1⟩ := N3.out.c
      simp only at d0 d1
      have P3 := Lib.hid p3
      clear ho3 hg3 o0 hsz3 p3
      by_cases h12 : l.length = 12
      · have e1 : decide (12 ≤ (l.length : Int)) = true := by simp; omega
        have E := HR.out.trans (lapp_full HO.out HX.out h12)
        injection E with E1 E2
        subst E1; subst E2
        have Z := Lib.hid (And.intro ((OEn.of_new P3.out).down B2.size) (below_step B2 B4.out))
        clear h12 d0 d1
        go_wp2
        go_ret2
        exact ⟨_, _, rfl, Z.out.1, Z.out.2⟩
      · have e1 : decide (12 ≤ (l.length : Int)) = false := by simp; omega
        have E := HR.out.trans (lapp_yes HO.out HX.out h12)
        injection E with E1 E2
        subst E2
        have EM := Lib.hid E1
        have hsz4 : w2.heap.size ≤ (w3.alloc (.cells #[.int .i64 x0, .int .i64 x1] 28)).heap.size := by have := B4.out.size; simp; omega
        have P4 := P3.out.alloc (.cells #[.int .i64 x0, .int .i64 x1] 28)
        clear h12 E1
        go_wp2_with (at_builtin; refine wpList_append_own _ rfl (.tmp 27) (.tmp 29) 23 rfl w2.heap.size 28 i0 (.agg #[.int .i64 0, .int .i64 0]) 2 16 Try.underlying23 hi0 hz0 hz1 hz2 rfl (by decide) _ _ _ rfl P4 ⟨w3.heap.size, 0, none⟩ 1 1 [.int .i64 x0, .int .i64 x1] rfl rfl (en_two (x := (x0, x1))) (ints_oneCell .i64 [x0, x1]) (by unfold maxLen; omega) (by omega) hsz4 ?_)
        intro v2 w5 ho5 hg5 _
        rw [ens_one l (x0, x1), ← EM.out] at ho5
        obtain ⟨A5, c5, rfl, p5⟩ := en_own (by rw [EM.out]; simp) ho5
        have B5 := (B4.out.alloc B4.out.size (.cells #[.int .i64 x0, .int .i64 x1] 28)).grown hg5 hsz4 (fun k hk => (P4.lt k hk).1)
        have Z := Lib.hid (And.intro ((OEn.of_new p5).down B2.size) (below_step B2 B5))
        clear ho5 hg5 p5 B5 d0 d1 P4
        go_wp2
        go_ret2
        exact ⟨_, _, rfl, Z.out.1, Z.out.2⟩
    · rw [Bool.not_eq_true] at hx
      have E := HR.out.trans (lapp_no (.inr hx))
      injection E with E1 E2
      subst E1; subst E2
      rw [hx]
      have Z := Lib.hid (And.intro (OEn.of_new (l := []) (World.ownsRow_made (size := 2) (e := 28) w2 #[] 0 B2.size (by unfold maxLen; omega) (by simp))) (B2.alloc B2.size (.cells #[] 28)))
      clear hx d0 d1
      go_wp2
      go_ret2
      exact ⟨_, 0, rfl, Z.out.1, Z.out.2⟩
  · rw [Bool.not_eq_true] at hok
    have E := HR.out.trans (lapp_no (.inl hok))
    injection E with E1 E2
    subst E1; subst E2
    rw [hok]
    have Z := Lib.hid (And.intro (OEn.of_new (l := []) (World.ownsRow_made (size := 2) (e := 28) w1 #[] 0 B1.size (by unfold maxLen; omega) (by simp))) (B1.alloc B1.size (.cells #[] 28)))
    clear hok c0 c1
    go_wp2
    go_ret2
    exact ⟨_, 0, rfl, Z.out.1, Z.out.2⟩
end Go.Proofs.Ytimijinldhpmfaa
