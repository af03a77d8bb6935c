/-
  The contracts of the reference's functions Num, Text and Take.
  Conditions: each contract's own.
-/
import Derived.Test.YtgjjaalojelmhaaRefW
import Derived.Deep.RegionHeld3
namespace Go.Proofs.Ytgjjaalojelmhaa
open Go.RowKit
open Wire

theorem nout_none {bs : List UInt8} {k : Nat} (h : GoOn bs k) (hk : bs.length ≤ k ∨ 6 ≤ k) : NumOut bs 0 [] false := .inr ⟨rfl, fun v r => numAt_none h hk v r, rfl, rfl⟩
theorem nout_great {bs : List UInt8} {k : Nat} (h : GoOn bs k) (hk : k < bs.length) (e : (bs[k]).toNat < 128) (U : Nat) (hU : U = val (bs.take (k + 1))) (hg : 1099511627776 < U) : NumOut bs 0 [] false := .inr ⟨rfl, fun v r hn => by
  obtain ⟨h2, h3, _, _⟩ := (numAt_iff hk h e _ _).1 hn
  omega, rfl, rfl⟩
theorem nout_other {bs : List UInt8} {k : Nat} (h : GoOn bs k) (hk : k < bs.length) (e : (bs[k]).toNat < 128) (U : Nat) (hU : U = val (bs.take (k + 1))) (hg : enc U ≠ bs.take (k + 1)) : NumOut bs 0 [] false := .inr ⟨rfl, fun v r hn => by
  obtain ⟨h2, h3, h4, _⟩ := (numAt_iff hk h e _ _).1 hn
  exact hg (by rw [hU, ← h3]; exact h4), rfl, rfl⟩
theorem nout_is {bs : List UInt8} {k : Nat} (h : GoOn bs k) (hk : k < bs.length) (e : (bs[k]).toNat < 128) (U : Nat) (hU : U = val (bs.take (k + 1))) (hs : U ≤ 1099511627776) (hg : enc U = bs.take (k + 1)) : NumOut bs U (bs.drop (k + 1)) true := .inl ⟨rfl, (numAt_iff hk h e _ _).2 ⟨hs, hU, hg, rfl⟩⟩

theorem sum_num (u P : Nat) (x : UInt8) : (u : Int) + (x.toNat : Int) % 128 * (P : Int) = ((u + P * (x.toNat % 128) : Nat) : Int) := by
  rw [Int.natCast_add, Int.natCast_mul, Int.mul_comm]
  rfl
theorem bsl_take {w : World} {b o : Nat} {bs : List UInt8} (h : Byt w (some ⟨b, o, none⟩) bs) (k c : Nat) (hk : k ≤ bs.length) (hc : k ≤ c) : BSl w (.slice (some ⟨b, o, none⟩) k c) (bs.take k) :=
  ⟨some ⟨b, o, none⟩, k, c, rfl, by rw [List.length_take]; omega, hc, (fun e => by cases e), h.take k⟩
theorem one_i (i : Int) (n : Nat) (hi : i = (n : Int)) (w : World) (hn : n ≤ 1099511627776) : Calls Try.prog 28 #[.int .i64 i] w (OwnRet w.heap.size w (enc n)) := by
  subst hi
  exact one_own n w hn _ rfl
theorem sameBytes_b (S T : Value) (xs ys : List UInt8) (w : World) (hx : BSl w S xs) (hy : BSl w T ys) (hlx : xs.length ≤ 140737488355328) (b : Bool) (hb : decide (xs = ys) = b) :
    Calls Try.prog 20 #[S, T] w (Ret w (.bool b)) := by
  subst hb
  exact sameBytes_any S T xs ys w hx hy hlx
set_option maxRecDepth 100000 in
set_option maxHeartbeats 1000000 in
theorem refNum_any (S0 : Value) (bs : List UInt8) (w : World) (hS0 : BSl w S0 bs) (hn : bs.length ≤ 140737488355328) :
    Calls Try.prog 14 #[S0] w (NumRet w bs) := by
  obtain ⟨A, n, c, rfl, hN, hc, hA, hx⟩ := hS0
  rw [hN] at hn
  have HX := Lib.hid hx
  have HN := Lib.hid hN
  have HA := Lib.hid hA
  clear hx hN hA
  go_enter Try.func14, Try.ntmps14
  go_wp2_with fail
  go_loopw [5, 6, 7] (fun v p i wr => ∃ k : Nat, k ≤ n ∧ k ≤ 6 ∧ i = .int .i64 k ∧ ∃ u P : Nat, v = .int .i64 u ∧ p = .int .i64 P ∧ Hid (u = val (bs.take k) ∧ P = 128 ^ k ∧ GoOn bs k) ∧ Below w.heap.size w wr) (fun _ _ i _ => 6 - (intOf i).toNat)
  case atStart => exact ⟨0, Nat.zero_le _, Nat.zero_le _, rfl, 0, 1, rfl, rfl, ⟨by simp [val], rfl, GoOn.zero _⟩, Below.refl _ _⟩
  case round =>
    obtain ⟨k, hk, hk6, rfl, u, P, rfl, rfl, hu, hbel⟩ := hrel
    have HB := Lib.hid hbel
    clear hbel
    by_cases hlt : k < n ∧ k < 6
    · obtain ⟨hlt1, hlt6⟩ := hlt
      have hx1 : k < bs.length := by rw [HN.out]; omega
      obtain ⟨bk, o, rfl, hb, hcell0⟩ := HX.out.at_ hx1
      have hcell := (HB.out.cell (p := ⟨bk, o + k, none⟩) hb).trans hcell0
      have hl1 : decide ((k : Int) < (n : Int)) = true := by simp; omega
      have hb8 := UInt8.toNat_lt bs[k]
      have hP5 : P ≤ 34359738368 := by
        have : 128 ^ k ≤ 128 ^ 5 := Nat.pow_le_pow_right (by omega) (by omega)
        rw [hu.out.2.1]
        omega
      have hU : u < P := by rw [hu.out.2.1, hu.out.1]; exact val_small bs (by omega)
      have hm1 : ((bs[k]).toNat : Int) % 128 * (P : Int) ≤ 4363686772736 := by
        have h : (bs[k]).toNat % 128 * P ≤ 127 * 34359738368 := Nat.mul_le_mul (by omega) hP5
        have e : ((bs[k]).toNat : Int) % 128 * (P : Int) = (((bs[k]).toNat % 128 * P : Nat) : Int) := by rw [Int.natCast_mul]; rfl
        rw [e]
        omega
      have hm0 : 0 ≤ ((bs[k]).toNat : Int) % 128 * (P : Int) := Int.mul_nonneg (by omega) (by omega)
      have HV : Hid (u + P * ((bs[k]).toNat % 128) = val (bs.take (k + 1))) := by
        obtain ⟨h1, h2, _⟩ := hu.out
        subst h1
        subst h2
        exact (val_take hx1).symm
      have hl2 : decide ((k : Int) < 6) = true := by simp; omega
      by_cases hgo : 128 ≤ (bs[k]).toNat
      · have hd : decide (((bs[k]).toNat : Int) < 128) = false := by simp; omega
        have HG : Hid (GoOn bs (k + 1)) := hu.out.2.2.succ hx1 hgo
        have HP : Hid (P * 128 = 128 ^ (k + 1)) := by rw [hu.out.2.1]; rfl
        generalize bs[k] = x at *
        clear hcell0
        go_wp2_with fail
        go_roundw
        case rel => exact ⟨k + 1, by omega, by omega, by go_num, u + P * (x.toNat % 128), P * 128, by rw [sum_num], by simp, ⟨HV.out, HP.out, HG.out⟩, HB.out⟩
        case measure => simp [intOf]; omega
      · have hd : decide (((bs[k]).toNat : Int) < 128) = true := by simp; omega
        have hlow : (bs[k]).toNat < 128 := by omega
        have HBSL := Lib.hid (bsl_take (HX.out.below HB.out) (k + 1) c (by omega) (by omega))
        obtain ⟨U, hU1⟩ : ∃ U, U = val (bs.take (k + 1)) := ⟨_, rfl⟩
        by_cases hmost : 1099511627776 < U
        · have HR := Lib.hid (nout_great hu.out.2.2 hx1 hlow U hU1 hmost)
          rw [← hU1] at HV
          generalize bs[k] = x at *
          have hsum : (u : Int) + (x.toNat : Int) % 128 * (P : Int) = (U : Int) := by rw [sum_num, HV.out]
          have hd2 : decide ((1099511627776 : Int) < (u : Int) + (x.toNat : Int) % 128 * (P : Int)) = true := by rw [hsum]; simp; omega
          clear hcell0 hsum hU1
          go_wp2_with fail
          go_quiet (fail)
          go_wp2_with fail
          go_ret3
          exact ⟨0, [], false, _, rfl, HR.out, bso_nil _ _, HB.out.trans ((quietBelow wr _).mono HB.out.size)⟩
        · have HR1 : Hid (enc U ≠ bs.take (k + 1) → NumOut bs 0 [] false) := fun h => nout_other hu.out.2.2 hx1 hlow U hU1 h
          have HR2 : Hid (enc U = bs.take (k + 1) → NumOut bs U (bs.drop (k + 1)) true) := fun h => nout_is hu.out.2.2 hx1 hlow U hU1 (by omega) h
          rw [← hU1] at HV
          generalize bs[k] = x at *
          have hsum : (u : Int) + (x.toNat : Int) % 128 * (P : Int) = (U : Int) := by rw [sum_num, HV.out]
          have hd2 : decide ((1099511627776 : Int) < (u : Int) + (x.toNat : Int) % 128 * (P : Int)) = false := by rw [hsum]; simp; omega
          have HSUM := Lib.hid hsum
          clear hcell0 hsum hU1
          go_wp2_with fail
          have hw1 : IntKind.i64.wrap ((k : Int) + 1) = (k : Int) + 1 := by rw [IntKind.wrap_i64]; omega
          have hw2 : (0 : Int) ≤ (k : Int) + 1 := by omega
          have hw3 : (k : Int) + 1 ≤ (c : Int) := by omega
          have HLE : Hid ((enc U).length ≤ 140737488355328) := Nat.le_trans (enc_six (by omega)) (by omega)
          by_cases heq : enc U = bs.take (k + 1)
          · have HQ := Lib.hid (decide_eq_true heq)
            have HR := Lib.hid (HR2.out heq)
            clear heq HR1 HR2
            go_region_held3 (fun _ => True) (trivial) (first | (go_at_call 28; refine (one_i _ U HSUM.out _ ?_).mono ?_; (omega); rintro e w1 ⟨v1, M1, rfl, ho1, hb1⟩) | (go_at_call 20; refine (sameBytes_b _ _ (enc U) (bs.take (k + 1)) _ (bsl_own ho1) ?_ ?_ true HQ.out).mono ?_; (exact HBSL.out.below ((Below.refl wr.heap.size wr).drew.trans hb1)); (exact HLE.out); rintro e w2 ⟨rfl, hb2⟩))
            have HB2 := Lib.hid (HB.out.trans ((((Below.refl wr.heap.size wr).drew.trans hb1).trans (hb2.mono hb1.size)).mono HB.out.size))
            clear ho1 hb1 hb2
            by_cases hca : c = k + 1
            · have HBD : Hid (BSl w2 (.slice (some ⟨bk, o, none⟩) 0 0) (bs.drop (k + 1))) := by
                rw [List.drop_of_length_le (by rw [HN.out]; omega)]
                exact ⟨_, 0, 0, rfl, rfl, Nat.le_refl _, (fun e => by cases e), byt_nil _ _⟩
              have hn1 : n - (k + 1) = 0 := by omega
              have hc1 : c - (k + 1) = 0 := by omega
              go_wp2_with fail
              refine (copyBytes_own _ (bs.drop (k + 1)) w2 HBD.out (by rw [List.length_drop, HN.out]; omega)).mono ?_
              rintro e w3 ⟨S, M3, rfl, ho3, hb3⟩
              have HO3 := Lib.hid ho3
              have HB3 := Lib.hid (HB2.out.trans (hb3.mono HB2.out.size))
              clear ho3 hb3
              go_wp2_with fail
              go_ret3
              exact ⟨U, _, true, S, by rw [HSUM.out]; rfl, HR.out, (bso_own HO3.out).mono HB2.out.size, HB3.out⟩
            · have HBD : Hid (BSl w2 (.slice (some ⟨bk, o + (k + 1), none⟩) (n - (k + 1)) (c - (k + 1))) (bs.drop (k + 1))) :=
                ⟨_, _, _, rfl, by rw [List.length_drop, HN.out], by omega, (fun e => by cases e), (HX.out.below HB2.out).drop (k + 1)⟩
              go_wp2_with fail
              refine (copyBytes_own _ (bs.drop (k + 1)) w2 HBD.out (by rw [List.length_drop, HN.out]; omega)).mono ?_
              rintro e w3 ⟨S, M3, rfl, ho3, hb3⟩
              have HO3 := Lib.hid ho3
              have HB3 := Lib.hid (HB2.out.trans (hb3.mono HB2.out.size))
              clear ho3 hb3
              go_wp2_with fail
              go_ret3
              exact ⟨U, _, true, S, by rw [HSUM.out]; rfl, HR.out, (bso_own HO3.out).mono HB2.out.size, HB3.out⟩
          · have HQ := Lib.hid (decide_eq_false heq)
            have HR := Lib.hid (HR1.out heq)
            clear heq HR1 HR2
            go_region_held3 (fun _ => True) (trivial) (first | (go_at_call 28; refine (one_i _ U HSUM.out _ ?_).mono ?_; (omega); rintro e w1 ⟨v1, M1, rfl, ho1, hb1⟩) | (go_at_call 20; refine (sameBytes_b _ _ (enc U) (bs.take (k + 1)) _ (bsl_own ho1) ?_ ?_ false HQ.out).mono ?_; (exact HBSL.out.below ((Below.refl wr.heap.size wr).drew.trans hb1)); (exact HLE.out); rintro e w2 ⟨rfl, hb2⟩))
            have HB2 := Lib.hid (HB.out.trans ((((Below.refl wr.heap.size wr).drew.trans hb1).trans (hb2.mono hb1.size)).mono HB.out.size))
            clear ho1 hb1 hb2
            go_wp2_with fail
            go_ret3
            exact ⟨0, [], false, _, rfl, HR.out, bso_nil _ _, HB2.out⟩
    · have HR : Hid (NumOut bs 0 [] false) := nout_none hu.out.2.2 (by rw [HN.out]; omega)
      by_cases h1 : k < n
      · have hl1 : decide ((k : Int) < (n : Int)) = true := by simp; omega
        have hl2 : decide ((k : Int) < 6) = false := by simp; omega
        go_wp2_with fail
        go_ret3
        exact ⟨0, [], false, _, rfl, HR.out, bso_nil _ _, HB.out⟩
      · have hl1 : decide ((k : Int) < (n : Int)) = false := by simp; omega
        go_wp2_with fail
        go_ret3
        exact ⟨0, [], false, _, rfl, HR.out, bso_nil _ _, HB.out⟩
end Go.Proofs.Ytgjjaalojelmhaa
