/- Resilience and availability, the program's, by their contracts. -/
import Derived.Test.YtngacjfoldgjpaaGreatDoorMetI1g
namespace Go.Proofs.YtngacjfoldgjpaaGreatDoor
open Go.RowKit

theorem fitK_step {K : List Nat} {k m N : Nat} (h : K[k]? = some m) : fitM (K.take (k + 1)) N = (fitM (K.take k) N && sub m N) := by
  rw [List.take_add_one, h]; simp [fitM]
theorem fitK_no {K : List Nat} {k m N : Nat} (h : K[k]? = some m) (h0 : sub m N = false) : fitM K N = false := by
  rw [Bool.eq_false_iff]
  intro h1
  have h2 : sub m N = true := List.all_eq_true.1 h1 _ (List.mem_of_getElem? h)
  rw [h0] at h2
  cases h2
/-- What the reading of a quorum system among the first members hands back. -/
def Among (w : World) (F : List (List Int)) (n : Int) (e : Ending) (w' : World) : Prop :=
  Below w.heap.size w w' ∧ ((fitB F n = false ∧ e = .returned (.tuple #[.slice none 0 0, .int .u8 0, .bool false])) ∨
    (fitB F n = true ∧ ∃ A c, e = .returned (.tuple #[.slice A (msks F).length c, .int .u8 ((fst n.toNat : Nat) : Int), .bool true]) ∧ IB w' A (msks F)))

set_option maxRecDepth 100000 in
set_option maxHeartbeats 1600000 in
theorem among_any (A : Option Addr) (c : Nat) (F : List (List Int)) (n : Int) (w : World) (ha : ISS w A F) (hl : F.length ≤ 1048576) (hs : Short F 1048576) :
    Calls Tryz.prog 14 #[.slice A F.length c, .int .i64 n] w (Among w F n) := by
  go_enter Tryz.func14, Tryz.ntmps14
  go_wp2_with fail
  refine (familyOf_any _ _ _ _ ha hl hs).mono ?_
  rintro e w1 ⟨b1, ⟨hf, rfl⟩ | ⟨hf, A1, c1, rfl, o1⟩⟩
  · have H := Lib.hid (show fitB F n = false by simp [fitB, transOk, hf])
    clear hf
    go_wp2
    go_ret3
    exact ⟨b1, .inl ⟨H.out, rfl⟩⟩
  · have hM := (famOk_sys hf).1
    have hl20 := famOk_len hf
    have hmle : (msks F).length = F.length := by simp [msks]
    have hml : (msks F).length ≤ 100 := by omega
    have i1 := (IB.of_own o1).1
    clear o1
    by_cases h0 : F.length = 0
    · have H := Lib.hid (show fitB F n = false by simp [fitB, transOk, h0])
      have h0b : (((msks F).length : Int) == 0) = true := by simp [msks, h0]
      clear hf h0 hmle
      go_wp2
      go_ret3
      exact ⟨b1, .inl ⟨H.out, rfl⟩⟩
    · have h0b : (((msks F).length : Int) == 0) = false := beq_eq_false_iff_ne.2 (by omega)
      have hT : transOk F = true := by simp [transOk, hf]; omega
      clear hmle
      by_cases hn1 : n < 1
      · have H := Lib.hid (show fitB F n = false by rw [Bool.eq_false_iff]; intro h; have := (fitB_parts.1 h).2.1; omega)
        clear hf h0 hT
        go_wp2
        go_ret3
        exact ⟨b1, .inl ⟨H.out, rfl⟩⟩
      · by_cases hn6 : 6 < n
        · have H := Lib.hid (show fitB F n = false by rw [Bool.eq_false_iff]; intro h; have := (fitB_parts.1 h).2.2.1; omega)
          clear hf h0 hT
          go_wp2
          go_ret3
          exact ⟨b1, .inl ⟨H.out, rfl⟩⟩
        · obtain ⟨m, rfl⟩ := Int.eq_ofNat_of_zero_le (show 0 ≤ n by omega)
          have hm6 : m ≤ 6 := by omega
          have hN := fst_lt hm6
          have HB := Lib.hid (show fitB F (m : Int) = fitM (msks F) (fst m) by
            show (transOk F && decide (1 ≤ (m : Int)) && decide ((m : Int) ≤ 6) && fitM (msks F) (fst (m : Int).toNat)) = _
            rw [hT, decide_eq_true (by omega), decide_eq_true (by omega)]
            rfl)
          have HG := Lib.hid (fun w => first_any m w hm6)
          have HE := Lib.hid (show ∀ (e : Ending) (w' : World), Below w.heap.size w w' → fitM (msks F) (fst m) = true → IB w' A1 (msks F) → e = .returned (.tuple #[.slice A1 (msks F).length c1, .int .u8 ((fst m : Nat) : Int), .bool true]) → Among w F (m : Int) e w' from
            fun e w' hb hfit hib he => ⟨hb, .inr ⟨by rw [HB.out]; exact hfit, A1, c1, he, hib⟩⟩)
          have HX := Lib.hid (show ∀ (e : Ending) (w' : World), Below w.heap.size w w' → fitM (msks F) (fst m) = false → e = .returned (.tuple #[.slice none 0 0, .int .u8 0, .bool false]) → Among w F (m : Int) e w' from
            fun e w' hb hfit he => ⟨hb, .inl ⟨by rw [HB.out]; exact hfit, he⟩⟩)
          clear hf h0 hT HB
          have hfe : Hid ((2 ^ m - 1 : Nat) = fst m) := Lib.hid rfl
          generalize hK : msks F = K at *
          have HK := Lib.hid hK
          clear hK
          go_wp2_with fail
          refine (HG.out _).mono ?_
          rintro e w' ⟨he, rfl⟩
          rw [hfe.out] at he
          subst he
          clear HG hfe
          generalize fst m = N at *
          go_wp2
          go_loop [36] (fun i => ∃ k : Nat, k ≤ K.length ∧ i = .int .i64 k ∧ Hid (fitM (K.take k) N = true)) (fun i => K.length - (intOf i).toNat)
          case atStart => exact ⟨0, Nat.zero_le _, rfl, by show _ = _; simp [fitM]⟩
          case round =>
            obtain ⟨k, hk, rfl, hyes⟩ := hrel
            by_cases hlt : k < K.length
            · obtain ⟨b, off, q, rfl, hx, hc⟩ := i1.at_ hlt
              have hq := hM q (List.mem_of_getElem? hx)
              cases hsub : sub q N
              · have H := Lib.hid (fitK_no hx hsub)
                have HS := Lib.hid (show (andNot q N == 0) = false from hsub)
                clear hx hyes hsub
                go_wp2_with fail
                refine (subsetOf_bits _ _ _ hq hN).mono ?_
                rintro e w' ⟨he, rfl⟩
                rw [HS.out] at he
                subst he
                go_wp2
                go_ret3
                exact HX.out _ _ b1 H.out rfl
              · have H := Lib.hid (show fitM (K.take (k + 1)) N = true by rw [fitK_step hx, hyes.out, hsub]; rfl)
                have HS := Lib.hid (show (andNot q N == 0) = true from hsub)
                clear hx hyes hsub
                go_wp2_with fail
                refine (subsetOf_bits _ _ _ hq hN).mono ?_
                rintro e w' ⟨he, rfl⟩
                rw [HS.out] at he
                subst he
                go_wp2
                go_round
                case rel => exact ⟨k + 1, by omega, by go_num, H.out⟩
                case measure => simp [intOf]; omega
            · have hkl : k = K.length := by omega
              subst hkl
              have H := Lib.hid (show fitM K N = true by have := hyes.out; rwa [List.take_length] at this)
              clear hyes
              go_wp2
              go_ret3
              exact HE.out _ _ b1 H.out i1 rfl

theorem fst_all {n : Nat} (hn : n ≤ 6) : ∀ k, k ≤ fst n → (andNot k (fst n) == 0) = true := by
  intro k hk
  have h : k < 2 ^ n := by unfold fst at hk; have := Nat.two_pow_pos n; omega
  exact (first_sub hn h).1
theorem fst_succ (n : Nat) : fst n + 1 = 2 ^ n := by unfold fst; have := Nat.two_pow_pos n; omega
theorem AV_alloc {w w1 : World} (hb : Below w.heap.size w w1) (u v : Nat → Nat) : Below w.heap.size w ((w1.alloc (.cells #[.int .i64 ((u 0 : Nat) : Int), .int .i64 ((u 1 : Nat) : Int), .int .i64 ((u 2 : Nat) : Int), .int .i64 ((u 3 : Nat) : Int), .int .i64 ((u 4 : Nat) : Int), .int .i64 ((u 5 : Nat) : Int), .int .i64 ((u 6 : Nat) : Int)] 45)).alloc (.cells #[.int .i64 ((v 0 : Nat) : Int), .int .i64 ((v 1 : Nat) : Int), .int .i64 ((v 2 : Nat) : Int), .int .i64 ((v 3 : Nat) : Int), .int .i64 ((v 4 : Nat) : Int), .int .i64 ((v 5 : Nat) : Int), .int .i64 ((v 6 : Nat) : Int)] 45)) :=
  (hb.alloc hb.size _).alloc (by have := hb.size; simp; omega) _

set_option maxRecDepth 100000 in
set_option maxHeartbeats 1600000 in
theorem implRes_any (A : Option Addr) (c : Nat) (F : List (List Int)) (n : Int) (w : World) (ha : ISS w A F) (hl : F.length ≤ 1048576) (hs : Short F 1048576) :
    Calls Tryz.prog 5 #[.slice A F.length c, .int .i64 n] w fun e w' => e = .returned (.int .i64 (resR F n)) ∧ Below w.heap.size w w' := by
  go_enter Tryz.func5, Tryz.ntmps5
  go_wp2_with fail
  refine (among_any _ _ _ _ _ ha hl hs).mono ?_
  rintro e w1 ⟨b1, ⟨hf, rfl⟩ | ⟨hf, A1, c1, rfl, i1⟩⟩
  · have H := Lib.hid (show resR F n = -1 by simp [resR, hf])
    clear hf
    go_wp2
    go_ret
    exact ⟨ret_int H.out.symm, b1⟩
  · obtain ⟨hT, hn1, hn6, _⟩ := fitB_parts.1 hf
    obtain ⟨m, rfl⟩ := Int.eq_ofNat_of_zero_le (show 0 ≤ n by omega)
    have hm6 : m ≤ 6 := by omega
    have hSys := famOk_sys (trans_parts hT).1
    have hM := hSys.1
    have hl20 := (trans_len hT).1
    have hml : (msks F).length ≤ 100 := by simp [msks]; omega
    have HR := Lib.hid (fun (k : Nat) (h1 : k = 0 ∨ cntL (fun m => !hasQ (msks F) m) (List.range (fst m + 1)) (k - 1) ≠ 0) (h2 : ∀ j, k ≤ j → j < 7 → cntL (fun m => !hasQ (msks F) m) (List.range (fst m + 1)) j = 0) => show (m : Int) - ((k : Int) - 1) - 1 = resR F (m : Int) by
      rw [resR, if_pos hf]
      rw [fst_succ] at h1 h2
      exact wst_cnt hSys hm6 h1 h2)
    have hN := fst_lt hm6
    have HA := Lib.hid (fst_all hm6)
    have hmt : (m : Int).toNat = m := rfl
    rw [hmt]
    clear hf hT hSys hl20 hmt
    generalize msks F = K at *
    generalize fst m = N at *
    go_wp2_with fail
    refine (ssizes_any _ _ _ _ _ i1 hml hM hN HA.out).mono ?_
    rintro e w2 ⟨rfl, b2⟩
    have B2 := below_step b1 b2
    clear b1 b2 i1
    generalize cntL (hasQ K) (List.range (N + 1)) = u at *
    generalize cntL (fun m => !hasQ K m) (List.range (N + 1)) = v at *
    have B3 := AV_alloc B2 u v
    unfold AV
    go_wp2_with fail
    refine (largest_any v _).mono ?_
    rintro e w3 ⟨⟨k, hk, rfl, h1, h2⟩, b3⟩
    have H := Lib.hid (HR.out k h1 h2)
    have B4 := Lib.hid (below_step B3 b3)
    clear h1 h2 HR B2 b3 B3
    go_wp2
    go_ret
    exact ⟨ret_int H.out, B4.out⟩

end Go.Proofs.YtngacjfoldgjpaaGreatDoor
