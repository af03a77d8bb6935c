/-
  The law ArenaFull, walked: whatever comes in, it returns true, and nothing that was there turns. Beside it: Hold of terms of any size, and the laws' helper great.
  Conditions: the terms lie in memory as told by 'TsP', their names take at most 2^47 bytes each; name.Right's contract; the laws' own check 'alive' returns true.
-/
import Derived.Test.YtlijdgamobpndaaDoorJ39
import Derived.Test.YtlijdgamobpndaaDoorJ33
import Derived.Test.YtlijdgamobpndaaDoorJ31
import Derived.Test.YtlijdgamobpndaaDoorJ19
import Derived.Test.YtlijdgamobpndaaDoorJ36
import Derived.Test.YtlijdgamobpndaaDoorJ12
namespace Go.Proofs.YtlijdgamobpndaaDoor
open Go.RowKit Go.Maps
open Lvl
open Trm
namespace Arn
set_option maxRecDepth 100000 in
set_option maxHeartbeats 1000000 in
theorem holds_free (RN : ByteArray → Bool) (t : Tm) (l s : Value) (w : World) (base p bm most : Nat) (V : Value) (ns : List Nd) (ha : ArM w base p bm most V ns) (hbase : base ≤ w.heap.size) (hnm : nmOk t) (CN : NameC w RN) (ht : TmP w (fun b => b ≠ p ∧ b ≠ bm ∧ V.ownBlock ≠ some b) t l s) (b : Bool) (hb : rightT RN 4 t 1125899906842624 = b) :
    Calls Tryd.prog 10 #[.pointer (some ⟨p, 0, none⟩), tv t l s] w (HoldsRet base p bm most V ns t b w) := by
  obtain ⟨⟨la, ll, lc, rfl⟩, sa, sl, sc, rfl⟩ := tmP_slices ht
  have HA := Lib.hid ha
  have HT := Lib.hid ht
  have HNM := Lib.hid hnm
  have HCN := Lib.hid CN
  have HBB := Lib.hid hb
  obtain ⟨k, hk⟩ : ∃ k, tkOf t = k := ⟨_, rfl⟩
  obtain ⟨n, hn⟩ : ∃ n, tnOf t = n := ⟨_, rfl⟩
  obtain ⟨m, hmm⟩ : ∃ m, tmOf t = m := ⟨_, rfl⟩
  dsimp only [tv]
  rw [hk, hn, hmm]
  have hbx := below_lit w (.cells #[.int .i64 k, .int .i64 n, .string m, .slice la ll lc, .slice sa sl sc] 25)
  have hrx := heap_alloc_new w (.cells #[.int .i64 k, .int .i64 n, .string m, .slice la ll lc, .slice sa sl sc] 25)
  have hzx : (w.alloc (.cells #[.int .i64 k, .int .i64 n, .string m, .slice la ll lc, .slice sa sl sc] 25)).heap.size = w.heap.size + 1 := by simp
  have HV : Hid (TmV (w.alloc (.cells #[.int .i64 k, .int .i64 n, .string m, .slice la ll lc, .slice sa sl sc] 25)) t (.agg #[.int .i64 k, .int .i64 n, .string m, .slice la ll lc, .slice sa sl sc])) := by
    have : TmV (w.alloc (.cells #[.int .i64 k, .int .i64 n, .string m, .slice la ll lc, .slice sa sl sc] 25)) t (.agg #[.int .i64 k, .int .i64 n, .string m, .slice la ll lc, .slice sa sl sc]) := ⟨_, _, by rw [← hk, ← hn, ← hmm], tmP_below hbx (tmP_weak (fun _ _ => trivial) ht)⟩
    exact this
  have HB := Lib.hid hbx
  have HR := Lib.hid hrx
  have HZ := Lib.hid hzx
  have HKN := Lib.hid (And.intro hk (And.intro hn hmm))
  obtain ⟨a0, a1, a2, a3, a4⟩ := five_cells hrx
  clear ha ht hnm CN hb hk hn hmm hbx hrx hzx
  go_enter Tryd.func10, Tryd.ntmps10
  go_wp2_with fail
  generalize w.alloc (.cells #[.int .i64 k, .int .i64 n, .string m, .slice la ll lc, .slice sa sl sc] 25) = W at *
  refine (right_free RN t _ _ HV.out (nm_pre t 0 0 HNM.out) (HCN.out.below HB.out) 4 1125899906842624 b HBB.out).mono ?_
  rintro e w1 ⟨rfl, hb1⟩
  have HC1 := Lib.hid (HB.out.trans (hb1.mono HB.out.size))
  have HR1 := Lib.hid ((hb1.block w.heap.size (by rw [HZ.out]; omega)).trans HR.out)
  clear hb1 a0 a1 a2 a3 a4
  cases b with
  | false =>
    go_wp2_with fail
    go_ret2
    unfold HoldsRet
    rw [if_neg (by decide)]
    exact ⟨rfl, HC1.out⟩
  | true =>
    obtain ⟨a0, a1, a2, a3, a4⟩ := five_cells HR1.out
    have hcall := hold_up (tnodes t) t (.slice la ll lc) (.slice sa sl sc) w1 base p bm most V ns (Nat.le_refl _) (HA.out.below HC1.out) (Nat.le_trans hbase HC1.out.size) (right_okH HBB.out HNM.out) (tmP_below HC1.out HT.out)
    dsimp only [tv] at hcall
    rw [HKN.out.1, HKN.out.2.1, HKN.out.2.2] at hcall
    have HCALL := Lib.hid hcall
    clear hcall
    go_wp2_with fail
    refine HCALL.out.mono ?_
    rintro e w2 ⟨V2, rfl, ha2, hk2⟩
    generalize hz9 : (if (holdT most t ns).1 = 0 then (24 : Int) else 0) = z9
    have HA2 := Lib.hid ha2
    have HK2 := Lib.hid hk2
    have HZ9 := Lib.hid hz9
    clear ha2 hk2 hz9
    go_wp2_with fail
    go_ret2
    unfold HoldsRet HoldRet
    rw [if_pos rfl, HZ9.out]
    exact ⟨V2, rfl, HA2.out, (Kp.of_below HC1.out).trans HK2.out⟩
set_option maxRecDepth 100000 in
set_option maxHeartbeats 1000000 in
/-- Whatever the terms, an answer comes. -/
theorem great_any (ts : List Tm) (A : Option Addr) (len cap : Nat) (w : World) (hts : TsP w (fun _ => True) A 0 ts) (hlen : ts.length = len) (hl47 : len ≤ 140737488355328) (hnm : nmOkL ts) :
    Calls Tryd.prog 7 #[.slice A len cap] w (fun e w' => ∃ b, Ret w (.bool b) e w') := by
  have HTS := Lib.hid hts
  have HN := Lib.hid hlen
  have HNM := Lib.hid hnm
  clear hts hlen hnm
  by_cases h20 : 20 < len
  · have d0 : decide ((20 : Int) < (len : Int)) = true := by simp; omega
    go_enter Tryd.func7, Tryd.ntmps7
    go_wp2_with fail
    go_ret
    exact ⟨true, rfl, Below.refl _ _⟩
  have d0 : decide ((20 : Int) < (len : Int)) = false := by simp; omega
  go_enter Tryd.func7, Tryd.ntmps7
  go_wp2_with fail
  go_loopw [3, 4] (fun c i wr => ∃ j acc : Nat, j ≤ len ∧ i = .int .i64 j ∧ c = .int .i64 acc ∧ acc ≤ 600 ∧ Hid (Below w.heap.size w wr)) (fun _ i _ => len - (intOf i).toNat)
  case atStart => exact ⟨0, 0, Nat.zero_le _, rfl, rfl, by omega, Below.refl _ _⟩
  case round =>
    obtain ⟨j, acc, hj, rfl, rfl, hac, hgr⟩ := hrel
    by_cases hlt : j < len
    · have hx1 : j < ts.length := by rw [HN.out]; exact hlt
      have hln : decide ((j : Int) < (len : Int)) = true := by simp; omega
      obtain ⟨bq, o, l1, s1, rfl, hbs, _, hc0, hc1, hc2, hc3, hc4, htm⟩ := tsP_get HTS.out j hx1
      obtain ⟨⟨xa, xl, xc, rfl⟩, ya, yl, yc, rfl⟩ := tmP_slices htm
      have e0 := (hgr.out.cell (p := ⟨bq, _, none⟩) hbs).trans hc0
      have e1 := (hgr.out.cell (p := ⟨bq, _, none⟩) hbs).trans hc1
      have e2 := (hgr.out.cell (p := ⟨bq, _, none⟩) hbs).trans hc2
      have e3 := (hgr.out.cell (p := ⟨bq, _, none⟩) hbs).trans hc3
      have e4 := (hgr.out.cell (p := ⟨bq, _, none⟩) hbs).trans hc4
      have hnj := nmOkL_mem HNM.out (List.getElem_mem hx1)
      have q1 : (0 : Int) ≤ (j : Int) := by omega
      have q2 : (j : Int) < (len : Int) := by omega
      obtain ⟨q, hq⟩ : ∃ q, min (rn ts[j]) (300 + 1) = q := ⟨_, rfl⟩
      have hq2 : q ≤ 301 := by omega
      have hrn := rnodes_up 300 (by decide) (rn ts[j]) ts[j] _ wr (tn_rn' ts[j]) hnj ⟨_, _, rfl, tmP_below hgr.out htm⟩
      dsimp only [tv] at hrn
      rw [hq] at hrn
      have HRN := Lib.hid hrn
      clear hrn hq htm hnj hc0 hc1 hc2 hc3 hc4
      generalize tkOf ts[j] = ka at *
      generalize tnOf ts[j] = na at *
      generalize tmOf ts[j] = ma at *
      by_cases hgt : 600 < acc + q
      · have d9 : decide ((600 : Int) < (acc : Int) + (q : Int)) = true := by simp; omega
        go_wp2_with fail
        refine HRN.out.mono ?_
        rintro e w1 ⟨rfl, hb1⟩
        have HB1 := Lib.hid (hgr.out.trans (hb1.mono hgr.out.size))
        clear hb1 e0 e1 e2 e3 e4
        go_wp2_with fail
        go_ret
        exact ⟨true, rfl, HB1.out⟩
      · have d9 : decide ((600 : Int) < (acc : Int) + (q : Int)) = false := by simp; omega
        have hsm6 : acc + q ≤ 600 := by omega
        go_wp2_with fail
        refine HRN.out.mono ?_
        rintro e w1 ⟨rfl, hb1⟩
        have HB1 := Lib.hid (hgr.out.trans (hb1.mono hgr.out.size))
        clear hb1 e0 e1 e2 e3 e4
        go_wp2_with fail
        go_roundw
        case rel => exact ⟨j + 1, acc + q, by omega, by go_num, by go_num, hsm6, HB1.out⟩
        case measure => simp [intOf]; omega
    · obtain rfl : j = len := by omega
      have hln : decide ((j : Int) < (j : Int)) = false := by simp
      go_wp2_with fail
      go_ret
      exact ⟨false, rfl, hgr.out⟩
set_option maxRecDepth 100000 in
set_option maxHeartbeats 1000000 in
theorem arenaFull_any (M : Int) (ts : List Tm) (A : Option Addr) (len cap : Nat) (w : World) (AL : ∀ w', Below w.heap.size w w' → Calls Tryd.prog 6 #[] w' (Ret w' (.bool true))) (CN : NameC w Nm.rightB) (hts : TsP w (fun _ => True) A 0 ts) (hlen : ts.length = len) (hl47 : len ≤ 140737488355328) (hnm : nmOkL ts) :
    Calls Tryd.prog 4 #[.int .i64 M, .slice A len cap] w (Ret w (.bool true)) := by
  have HAL := Lib.hid AL
  have HCN := Lib.hid CN
  have HTS := Lib.hid hts
  have HN := Lib.hid hlen
  have HNM := Lib.hid hnm
  clear AL CN hts hlen hnm
  go_enter Tryd.func4, Tryd.ntmps4
  go_wp2_with fail
  refine (HAL.out w (Below.refl _ _)).mono ?_
  rintro e v1 ⟨rfl, hb⟩
  have HC1 := Lib.hid hb
  clear hb
  have HG := Lib.hid (great_any ts A len cap v1 (tsP_below HC1.out HTS.out) HN.out hl47 HNM.out)
  by_cases hM0 : M < 1
  · have hd1 : decide (M < 1) = true := by simp; omega
    go_wp2_with fail
    refine HG.out.mono ?_
    rintro e v2 ⟨b, rfl, hb⟩
    have HC2 := Lib.hid (HC1.out.trans (hb.mono HC1.out.size))
    clear hb
    cases b <;> (go_wp2_with fail; go_ret; exact ⟨rfl, HC2.out⟩)
  have hd1 : decide (M < 1) = false := by simp; omega
  by_cases hM1 : 1048576 < M
  · have hd2 : decide (1048576 < M) = true := by simp; omega
    go_wp2_with fail
    refine HG.out.mono ?_
    rintro e v2 ⟨b, rfl, hb⟩
    have HC2 := Lib.hid (HC1.out.trans (hb.mono HC1.out.size))
    clear hb
    cases b <;> (go_wp2_with fail; go_ret; exact ⟨rfl, HC2.out⟩)
  have hd2 : decide (1048576 < M) = false := by simp; omega
  obtain ⟨Q, rfl⟩ : ∃ Q : Nat, M = Q := ⟨M.toNat, by omega⟩
  have hQ : 1 ≤ Q ∧ Q ≤ 1048576 := by omega
  go_wp2_with fail
  refine HG.out.mono ?_
  rintro e v2 ⟨b, rfl, hb⟩
  have HC2 := Lib.hid (HC1.out.trans (hb.mono HC1.out.size))
  clear hb HG
  cases b with
  | true => go_wp2_with fail; go_ret; exact ⟨rfl, HC2.out⟩
  | false =>
  go_wp2_with fail
  go_loopw [5] (fun i wr => ∃ j : Nat, j ≤ len ∧ i = .int .i64 j ∧ Hid (∀ a ∈ ts.take j, looseR a ≤ 1099511627776) ∧ Hid (Below w.heap.size w wr)) (fun i _ => len - (intOf i).toNat)
  case atStart => exact ⟨0, Nat.zero_le _, rfl, (by have : ∀ a ∈ ts.take 0, looseR a ≤ 1099511627776 := (fun a h => by rw [List.take_zero] at h; cases h); exact this), HC2.out⟩
  case round =>
    obtain ⟨j, hj, rfl, hal, hgr⟩ := hrel
    by_cases hlt : j < len
    · have hx1 : j < ts.length := by rw [HN.out]; exact hlt
      have hln : decide ((j : Int) < (len : Int)) = true := by simp; omega
      obtain ⟨bq, o, l1, s1, rfl, hbs, _, hc0, hc1, hc2, hc3, hc4, htm⟩ := tsP_get HTS.out j hx1
      obtain ⟨⟨xa, xl, xc, rfl⟩, ya, yl, yc, rfl⟩ := tmP_slices htm
      have e0 := (hgr.out.cell (p := ⟨bq, _, none⟩) hbs).trans hc0
      have e1 := (hgr.out.cell (p := ⟨bq, _, none⟩) hbs).trans hc1
      have e2 := (hgr.out.cell (p := ⟨bq, _, none⟩) hbs).trans hc2
      have e3 := (hgr.out.cell (p := ⟨bq, _, none⟩) hbs).trans hc3
      have e4 := (hgr.out.cell (p := ⟨bq, _, none⟩) hbs).trans hc4
      have hnj := nmOkL_mem HNM.out (List.getElem_mem hx1)
      have q1 : (0 : Int) ≤ (j : Int) := by omega
      have q2 : (j : Int) < (len : Int) := by omega
      obtain ⟨R, hR⟩ : ∃ R, looseR ts[j] = R := ⟨_, rfl⟩
      have hlo := refLoose_free ts[j] _ wr ⟨_, _, rfl, tmP_below hgr.out htm⟩ hnj R hR
      dsimp only [tv] at hlo
      have HLO := Lib.hid hlo
      have HTK : Hid (R ≤ 1099511627776 → ∀ a ∈ ts.take (j + 1), looseR a ≤ 1099511627776) := by
        have : R ≤ 1099511627776 → ∀ a ∈ ts.take (j + 1), looseR a ≤ 1099511627776 := fun h a ha => by
          rw [List.take_add_one, List.getElem?_eq_getElem hx1] at ha
          rcases List.mem_append.1 ha with h1 | h1
          · exact hal.out a h1
          · obtain rfl : a = ts[j] := by simpa using h1
            rw [hR]; exact h
        exact this
      clear hlo htm hnj hc0 hc1 hc2 hc3 hc4 hR
      generalize tkOf ts[j] = ka at *
      generalize tnOf ts[j] = na at *
      generalize tmOf ts[j] = ma at *
      by_cases hbig : 1099511627776 < R
      · have d9 : decide (1099511627776 < R) = true := by simp; omega
        go_wp2_with fail
        refine HLO.out.mono ?_
        rintro e w1 ⟨rfl, hb1⟩
        have HB1 := Lib.hid (hgr.out.trans (hb1.mono hgr.out.size))
        clear hb1 e0 e1 e2 e3 e4
        go_wp2_with fail
        go_ret
        exact ⟨rfl, HB1.out⟩
      · have d9 : decide (1099511627776 < R) = false := by simp; omega
        have HT9 := Lib.hid (HTK.out (by omega))
        clear HTK
        go_wp2_with fail
        refine HLO.out.mono ?_
        rintro e w1 ⟨rfl, hb1⟩
        have HB1 := Lib.hid (hgr.out.trans (hb1.mono hgr.out.size))
        clear hb1 e0 e1 e2 e3 e4
        go_wp2_with fail
        go_roundw
        case rel => exact ⟨j + 1, by omega, by go_num, HT9.out, HB1.out⟩
        case measure => simp [intOf]; omega
    · obtain rfl : len = j := by omega
      have hln : decide ((len : Int) < (len : Int)) = false := by simp
      have HAL2 : Hid (∀ a ∈ ts, looseR a ≤ 1099511627776) := by
        have := hal.out
        rw [List.take_of_length_le (by rw [HN.out]; exact Nat.le_refl _)] at this
        exact this
      have HC3 := Lib.hid hgr.out
      generalize wr = v3 at *
      clear hal hgr HC2
      go_wp2_with fail
      refine (new_is v3 Q hQ.1 hQ.2).mono ?_
      rintro e v4 ⟨p, bm, rfl, ha4, hb4⟩
      have HC4 := Lib.hid (HC3.out.trans (hb4.mono HC3.out.size))
      have HA4 := Lib.hid ha4
      have hs3 := HC3.out.size
      generalize v3.heap.size = base at *
      clear ha4 hb4 HC3
      go_wp2_with fail
      go_loopw [8, 9, 10] (fun i _ _ wr => ∃ (j : Nat) (V : Value) (ns : List Nd), j ≤ len ∧ i = .int .i64 j ∧ Hid (ArM wr base p bm Q V ns) ∧ Hid (Inv CF ns) ∧ Hid (Below w.heap.size w wr)) (fun i _ _ _ => len - (intOf i).toNat)
      case atStart => exact ⟨0, _, [], Nat.zero_le _, rfl, HA4.out, inv_nil _, HC4.out⟩
      case round =>
        obtain ⟨j, V, ns, hj, rfl, har, hin, hgr⟩ := hrel
        by_cases hlt : j < len
        · have hx1 : j < ts.length := by rw [HN.out]; exact hlt
          have hln : decide ((j : Int) < (len : Int)) = true := by simp; omega
          obtain ⟨bq, o, l1, s1, rfl, hbs, _, hc0, hc1, hc2, hc3, hc4, htm⟩ := tsP_get HTS.out j hx1
          obtain ⟨⟨xa, xl, xc, rfl⟩, ya, yl, yc, rfl⟩ := tmP_slices htm
          have e0 := (hgr.out.cell (p := ⟨bq, _, none⟩) hbs).trans hc0
          have e1 := (hgr.out.cell (p := ⟨bq, _, none⟩) hbs).trans hc1
          have e2 := (hgr.out.cell (p := ⟨bq, _, none⟩) hbs).trans hc2
          have e3 := (hgr.out.cell (p := ⟨bq, _, none⟩) hbs).trans hc3
          have e4 := (hgr.out.cell (p := ⟨bq, _, none⟩) hbs).trans hc4
          have hnj := nmOkL_mem HNM.out (List.getElem_mem hx1)
          have q1 : (0 : Int) ≤ (j : Int) := by omega
          have q2 : (j : Int) < (len : Int) := by omega
          obtain ⟨b, hb⟩ : ∃ b, rightT Nm.rightB 4 ts[j] 1125899906842624 = b := ⟨_, rfl⟩
          have hho := holds_free Nm.rightB ts[j] (.slice xa xl xc) (.slice ya yl yc) wr base p bm Q V ns har.out (by have := har.out.pb; have := har.out.plt; omega) hnj (HCN.out.below hgr.out) (tmP_move (w := w) (fun b hlt _ => ⟨⟨by have := har.out.pb; omega, by have := har.out.mb; omega, fun e => by have := har.out.vlt b e; omega⟩, hgr.out.block b hlt⟩) hgr.out.size _ _ _ htm) b hb
          have HCF : Hid (b = true → CF ts[j]) := by
            have : b = true → CF ts[j] := fun h => cf_start (hb.trans h) hnj (HAL2.out _ (List.getElem_mem hx1))
            exact this
          dsimp only [tv] at hho
          have HHO := Lib.hid hho
          clear hho htm hnj hc0 hc1 hc2 hc3 hc4 hb
          generalize tkOf ts[j] = ka at *
          generalize tnOf ts[j] = na at *
          generalize tmOf ts[j] = ma at *
          cases b with
          | false =>
            go_wp2_with fail
            refine HHO.out.mono ?_
            intro e w1 hq
            unfold HoldsRet at hq
            rw [if_neg (by decide)] at hq
            obtain ⟨rfl, hb1⟩ := hq
            have HA1 := Lib.hid (har.out.below hb1)
            have HB1 := Lib.hid (hgr.out.trans (hb1.mono hgr.out.size))
            have HI1 := Lib.hid hin.out
            obtain ⟨V1, hV1⟩ : ∃ x, x = V := ⟨_, rfl⟩
            obtain ⟨ns1, hns1⟩ : ∃ x, x = ns := ⟨_, rfl⟩
            obtain ⟨cn1, hcn1⟩ : ∃ x, ns.length = x := ⟨_, rfl⟩
            rw [← hns1] at hcn1 HI1 HA1
            rw [← hV1] at HA1
            have HCN1 := Lib.hid hcn1
            have hcq : cn1 ≤ Q := by rw [← hcn1]; exact HA1.out.le
            clear hb1 e0 e1 e2 e3 e4 hV1 hns1 hcn1 HHO HCF
            have u1 : decide ((Q : Int) < (cn1 : Int)) = false := by simp; omega
            have u2 : decide ((cn1 : Int) < 0) = false := decide_eq_false (by omega)
            go_wp2_with fail
            refine (count_is w1 base p bm Q V1 ns1 HA1.out cn1 HCN1.out).mono ?_
            rintro e w2 ⟨rfl, hb2⟩
            have HA2 := Lib.hid (HA1.out.below hb2)
            have HB2 := Lib.hid (HB1.out.trans (hb2.mono HB1.out.size))
            clear hb2
            go_wp2_with fail
            refine (count_is w2 base p bm Q V1 ns1 HA2.out cn1 HCN1.out).mono ?_
            rintro e w3 ⟨rfl, hb3⟩
            have HA3 := Lib.hid (HA2.out.below hb3)
            have HB3 := Lib.hid (HB2.out.trans (hb3.mono HB2.out.size))
            clear hb3
            go_wp2_with fail
            go_roundw
            case rel => exact ⟨j + 1, V1, ns1, by omega, by go_num, HA3.out, HI1.out, HB3.out⟩
            case measure => simp [intOf]; omega
          | true =>
            go_wp2_with fail
            refine HHO.out.mono ?_
            intro e w1 hq
            unfold HoldsRet HoldRet at hq
            rw [if_pos rfl] at hq
            obtain ⟨V1, rfl, ha1, hk1⟩ := hq
            have hst := full_step (HCF.out trivial) hin.out har.out.le
            generalize holdT Q ts[j] ns = r at *
            obtain ⟨id, ns1⟩ := r
            dsimp only at ha1 hst ⊢
            obtain ⟨hi1, hi2, hi3, hi4⟩ := hst
            have HI1 := Lib.hid hi1
            have HA1 := Lib.hid ha1
            have HB1 := Lib.hid (hgr.out.trans (hk1.below har.out (B := w.heap.size) hs3))
            obtain ⟨cn1, hcn1⟩ : ∃ x, ns1.length = x := ⟨_, rfl⟩
            rw [hcn1] at hi2 hi3 hi4
            have HCN1 := Lib.hid hcn1
            clear hk1 e0 e1 e2 e3 e4 hcn1 HHO HCF hi1 ha1
            have u1 : decide ((Q : Int) < (cn1 : Int)) = false := by simp; omega
            have u2 : decide ((cn1 : Int) < (id : Int)) = false := by simp; omega
            by_cases hid : id = 0
            · have hcq := hi3 hid
              subst hcq
              subst hid
              rw [if_pos rfl]
              have u4 : ((cn1 : Int) != (cn1 : Int)) = false := by simp
              go_wp2_with fail
              refine (count_is w1 base p bm cn1 V1 ns1 HA1.out cn1 HCN1.out).mono ?_
              rintro e w2 ⟨rfl, hb2⟩
              have HA2 := Lib.hid (HA1.out.below hb2)
              have HB2 := Lib.hid (HB1.out.trans (hb2.mono HB1.out.size))
              clear hb2
              go_wp2_with fail
              refine (count_is w2 base p bm cn1 V1 ns1 HA2.out cn1 HCN1.out).mono ?_
              rintro e w3 ⟨rfl, hb3⟩
              have HA3 := Lib.hid (HA2.out.below hb3)
              have HB3 := Lib.hid (HB2.out.trans (hb3.mono HB2.out.size))
              clear hb3
              go_wp2_with fail
              refine (count_is w3 base p bm cn1 V1 ns1 HA3.out cn1 HCN1.out).mono ?_
              rintro e w4 ⟨rfl, hb4⟩
              have HA4' := Lib.hid (HA3.out.below hb4)
              have HB4 := Lib.hid (HB3.out.trans (hb4.mono HB3.out.size))
              clear hb4
              go_wp2_with fail
              go_roundw
              case rel => exact ⟨j + 1, V1, ns1, by omega, by go_num, HA4'.out, HI1.out, HB4.out⟩
              case measure => simp [intOf]; omega
            · rw [if_neg hid]
              go_wp2_with fail
              refine (count_is w1 base p bm Q V1 ns1 HA1.out cn1 HCN1.out).mono ?_
              rintro e w2 ⟨rfl, hb2⟩
              have HA2 := Lib.hid (HA1.out.below hb2)
              have HB2 := Lib.hid (HB1.out.trans (hb2.mono HB1.out.size))
              clear hb2
              go_wp2_with fail
              refine (count_is w2 base p bm Q V1 ns1 HA2.out cn1 HCN1.out).mono ?_
              rintro e w3 ⟨rfl, hb3⟩
              have HA3 := Lib.hid (HA2.out.below hb3)
              have HB3 := Lib.hid (HB2.out.trans (hb3.mono HB2.out.size))
              clear hb3
              go_wp2_with fail
              go_roundw
              case rel => exact ⟨j + 1, V1, ns1, by omega, by go_num, HA3.out, HI1.out, HB3.out⟩
              case measure => simp [intOf]; omega
        · obtain rfl : len = j := by omega
          have hln : decide ((len : Int) < (len : Int)) = false := by simp
          obtain ⟨cn, hcn⟩ : ∃ x, ns.length = x := ⟨_, rfl⟩
          have HCNT := Lib.hid hcn
          have hcq : cn ≤ 1048576 := by have := har.out.le; omega
          have HA5 := Lib.hid har.out
          have HI5 := Lib.hid hin.out
          have HC5 := Lib.hid hgr.out
          generalize wr = v5 at *
          generalize V = V5 at *
          clear hcn har hin hgr HA4 HC4
          go_wp2_with fail
          go_loopw [11, 12, 13, 14, 15] (fun i _ _ _ _ wr => ∃ (j : Nat) (V : Value), 1 ≤ j ∧ j ≤ cn + 1 ∧ i = .int .i64 j ∧ Hid (ArM wr base p bm Q V ns) ∧ Hid (Below w.heap.size w wr)) (fun i _ _ _ _ _ => cn + 1 - (intOf i).toNat)
          case atStart => exact ⟨1, V5, Nat.le_refl _, by omega, rfl, HA5.out, HC5.out⟩
          case round =>
            obtain ⟨j, V, hj1, hj2, rfl, har, hgr⟩ := hrel
            by_cases hlt : j ≤ cn
            · have hln : decide ((j : Int) ≤ (cn : Int)) = true := by simp; omega
              have hex := HI5.out.each (j - 1) (by rw [HCNT.out]; omega)
              rw [show j - 1 + 1 = j by omega] at hex
              obtain ⟨u, hu1, hu2⟩ := hex
              have HU1 := Lib.hid hu1
              have HU2 := Lib.hid hu2
              have HHT := Lib.hid (holdT_held HI5.out Q u j hu1)
              clear hu1 hu2
              go_wp2_with fail
              refine (count_is wr base p bm Q V ns har.out cn HCNT.out).mono ?_
              rintro e w1 ⟨rfl, hb1⟩
              have HA1 := Lib.hid (har.out.below hb1)
              have HB1 := Lib.hid (hgr.out.trans (hb1.mono hgr.out.size))
              clear hb1
              go_wp2_with fail
              refine (term_is base p bm Q V ns u j w1 HA1.out HU2.out.okH HU1.out).mono ?_
              rintro e w2 ⟨l2, s2, rfl, ht2, hb2⟩
              obtain ⟨⟨xa, xl, xc, rfl⟩, ya, yl, yc, rfl⟩ := tmP_slices ht2
              dsimp only [tv]
              obtain ⟨k, hk⟩ : ∃ k, tkOf u = k := ⟨_, rfl⟩
              obtain ⟨n, hn⟩ : ∃ n, tnOf u = n := ⟨_, rfl⟩
              obtain ⟨m, hmm⟩ : ∃ m, tmOf u = m := ⟨_, rfl⟩
              rw [hk, hn, hmm]
              have HKN := Lib.hid (And.intro hk (And.intro hn hmm))
              have hbx := below_lit w2 (.cells #[.int .i64 k, .int .i64 n, .string m, .slice xa xl xc, .slice ya yl yc] 25)
              have hrx := heap_alloc_new w2 (.cells #[.int .i64 k, .int .i64 n, .string m, .slice xa xl xc, .slice ya yl yc] 25)
              have hb12 := hb2.trans (hbx.mono hb2.size)
              have hz12 := hb12.size
              have HA2 := Lib.hid (HA1.out.below hb12)
              have HB2 := Lib.hid (HB1.out.trans (hb12.mono HB1.out.size))
              have HT2 := Lib.hid (tmP_below hbx ht2)
              have hplt := HA1.out.plt
              have hmlt := HA1.out.mlt
              have HVL := Lib.hid (fun b (e : V.ownBlock = some b) => (HA1.out.vlt b e).2)
              obtain ⟨x0, x1, x2, x3, x4⟩ := five_cells hrx
              clear hk hn hmm hb2 ht2 hbx hb12
              go_upto_region 23 with fail
              generalize w2.alloc (.cells #[.int .i64 k, .int .i64 n, .string m, .slice xa xl xc, .slice ya yl yc] 25) = w3 at *
              have hho := holds_free Nm.rightB u (.slice xa xl xc) (.slice ya yl yc) w3 base p bm Q V ns HA2.out (by have := HA2.out.pb; have := HA2.out.plt; omega) HU2.out.nm (HCN.out.below HB2.out) (tmP_weak (fun b (hb : w1.heap.size ≤ b) => ⟨by omega, by omega, fun e => by have := HVL.out b e; omega⟩) HT2.out) true HU2.out.right
              dsimp only [tv] at hho
              rw [HKN.out.1, HKN.out.2.1, HKN.out.2.2] at hho
              unfold HoldsRet HoldRet at hho
              simp only [HHT.out, if_true, if_neg (show j ≠ 0 by omega)] at hho
              have HHO := Lib.hid hho
              clear hho
              go_wp2_with fail
              refine HHO.out.mono ?_
              rintro e w4 ⟨V4, rfl, ha4, hk4⟩
              have HA4 := Lib.hid ha4
              have HB4 := Lib.hid (HB2.out.trans (hk4.below HA2.out (B := w.heap.size) hs3))
              have hjj : ((j : Int) != (j : Int)) = false := by simp
              clear ha4 hk4 HHO x0 x1 x2 x3 x4 hrx
              go_wp2_with fail
              go_roundw
              case rel => exact ⟨j + 1, V4, by omega, by omega, by go_num, HA4.out, HB4.out⟩
              case measure => simp [intOf]; omega
            · have hln : decide ((j : Int) ≤ (cn : Int)) = false := by simp; omega
              go_wp2_with fail
              refine (count_is wr base p bm Q V ns har.out cn HCNT.out).mono ?_
              rintro e w1 ⟨rfl, hb1⟩
              have HB1 := Lib.hid (hgr.out.trans (hb1.mono hgr.out.size))
              clear hb1
              go_wp2_with fail
              go_ret
              exact ⟨rfl, HB1.out⟩
end Arn
end Go.Proofs.YtlijdgamobpndaaDoor
