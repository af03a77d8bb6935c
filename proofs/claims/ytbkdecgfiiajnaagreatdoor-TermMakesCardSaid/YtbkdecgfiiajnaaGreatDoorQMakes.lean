/-
  The law TermMakes, walked: whatever comes in, it returns true, and nothing that was there turns.
  Conditions: the terms lie in memory as told by 'TmV' and 'TsP', their names take at most 2^47 bytes each; name.Right's contract; the laws' own check 'alive' returns true.
-/
import Derived.Test.YtbkdecgfiiajnaaGreatDoorQMkFacts
import Derived.Test.YtbkdecgfiiajnaaGreatDoorQRefNodes
import Derived.Test.YtbkdecgfiiajnaaGreatDoorJ32
import Derived.Test.YtbkdecgfiiajnaaGreatDoorJ22
import Derived.Test.YtbkdecgfiiajnaaGreatDoorJ23
import Derived.Test.YtbkdecgfiiajnaaGreatDoorJ26
import Derived.Test.YtbkdecgfiiajnaaGreatDoorJ39
import Derived.Test.YtbkdecgfiiajnaaGreatDoorJ29
import Derived.Test.YtbkdecgfiiajnaaGreatDoorJ13
import Derived.Deep.DeepCutAuto
namespace Go.Proofs.YtbkdecgfiiajnaaGreatDoor
open Go.RowKit
open Lvl
namespace Trm

theorem spine_len : ∀ t : Tm, (spine t).2.length ≤ tnodes t
  | .mk k n nm ls [] => by simp [spine]
  | .mk k n nm ls [_] => by simp [spine]
  | .mk k n nm ls [g, a] => by
    rw [spine]
    split
    · have h := spine_len g
      rw [List.length_append, List.length_singleton, tnodes, tnodesL, tnodesL]
      omega
    · simp
  | .mk k n nm ls (_ :: _ :: _ :: _) => by simp [spine]

set_option maxRecDepth 100000 in
set_option maxHeartbeats 8000000 in
theorem termMakes_any (RN : ByteArray → Bool) (t : Tm) (v : Value) (ts : List Tm) (A : Option Addr) (len cap : Nat) (kk : Int) (w : World) (AL : ∀ w', Below w.heap.size w w' → Calls Tryz.prog 6 #[] w' (Ret w' (.bool true))) (CN : NameC w RN) (hv : TmV w t v) (hnm : nmOk t) (hlen : ts.length = len) (hlc : len ≤ cap) (hts : TsP w (fun _ => True) A 0 ts) (hnL : nmOkL ts) :
    Calls Tryz.prog 4 #[v, .slice A len cap, .int .i64 kk] w (Ret w (.bool true)) := by
  have HAL := Lib.hid AL
  have HCN := Lib.hid CN
  have HNK := Lib.hid hnm
  have HNM := Lib.hid (nm_pre t 0 0 hnm)
  have HNL := Lib.hid hnL
  have HLEN := Lib.hid hlen
  have HTS := Lib.hid hts
  clear AL CN hnm hnL hlen hts
  obtain ⟨g, hg⟩ : ∃ g, decide (2500 < rn t) = g := ⟨_, rfl⟩
  obtain ⟨b, hb⟩ : ∃ b, rightT RN 4 t kk = b := ⟨_, rfl⟩
  obtain ⟨R0, hR0⟩ : ∃ R, min (tnodes t) (2000 + 1) = R := ⟨_, rfl⟩
  have HG := Lib.hid hg
  have HBB := Lib.hid hb
  have HR0 := Lib.hid hR0
  have hr0 : R0 ≤ 2001 := by omega
  clear hg hb hR0
  obtain ⟨l, s, rfl, ht⟩ := hv
  obtain ⟨⟨la, ll, lc, rfl⟩, sa, sl, sc, rfl⟩ := tmP_slices ht
  have HTT := Lib.hid ht
  obtain ⟨k, hk⟩ : ∃ k, tkOf t = k := ⟨_, rfl⟩
  obtain ⟨n, hn⟩ : ∃ n, tnOf t = n := ⟨_, rfl⟩
  obtain ⟨m, hmm⟩ : ∃ m, tmOf t = m := ⟨_, rfl⟩
  dsimp only [tv]
  rw [hk, hn, hmm]
  have HK := Lib.hid hk
  have HNN := Lib.hid hn
  have HMM := Lib.hid hmm
  clear hk hn hmm ht
  go_enter Tryz.func4, Tryz.ntmps4
  go_wp2_with fail
  have z1 : (w.alloc (.cells #[.int .i64 k, .int .i64 n, .string m, .slice la ll lc, .slice sa sl sc] 25)).heap.size = w.heap.size + 1 := by simp
  have r0 : (w.alloc (.cells #[.int .i64 k, .int .i64 n, .string m, .slice la ll lc, .slice sa sl sc] 25)).heap[w.heap.size]? = some (Obj.cells #[.int .i64 k, .int .i64 n, .string m, .slice la ll lc, .slice sa sl sc] 25 (0, 0)) := by
    have := heap_alloc_new w (.cells #[.int .i64 k, .int .i64 n, .string m, .slice la ll lc, .slice sa sl sc] 25)
    exact this
  have HB := Lib.hid (below_lit w (.cells #[.int .i64 k, .int .i64 n, .string m, .slice la ll lc, .slice sa sl sc] 25))
  have HRW0 := Lib.hid (r0)
  clear r0
  generalize (w.alloc (.cells #[.int .i64 k, .int .i64 n, .string m, .slice la ll lc, .slice sa sl sc] 25)) = W at *
  have HZ := Lib.hid z1
  clear z1
  have hk : Hid (∀ W', Below W.heap.size W W' → W'.cell? ⟨w.heap.size, 0, none⟩ = some (.int .i64 k) ∧ W'.cell? ⟨w.heap.size, 1, none⟩ = some (.int .i64 n) ∧ W'.cell? ⟨w.heap.size, 2, none⟩ = some (.string m) ∧ W'.cell? ⟨w.heap.size, 3, none⟩ = some (.slice la ll lc) ∧ W'.cell? ⟨w.heap.size, 4, none⟩ = some (.slice sa sl sc)) := fun W' h => five_cells ((h.block w.heap.size (by rw [HZ.out]; omega)).trans HRW0.out)
  have HC0 := Lib.hid (Below.refl W.heap.size W)
  have HT : Hid (TmV W t (.agg #[.int .i64 k, .int .i64 n, .string m, .slice la ll lc, .slice sa sl sc])) := by
    have : TmV W t (.agg #[.int .i64 k, .int .i64 n, .string m, .slice la ll lc, .slice sa sl sc]) := ⟨_, _, by rw [← HK.out, ← HNN.out, ← HMM.out], tmP_below HB.out HTT.out⟩
    exact this
  have HTF := Lib.hid (tmP_below HB.out HTT.out)
  obtain ⟨a0, a1, a2, a3, a4⟩ := hk.out W HC0.out
  have hzw := HZ.out
  clear HRW0 HTT
  refine (HAL.out W HB.out).mono ?_
  rintro e v1 ⟨rfl, hb⟩
  have HC1 := Lib.hid (HC0.out.trans (hb.mono HC0.out.size))
  clear hb a0 a1 a2 a3 a4
  obtain ⟨a0, a1, a2, a3, a4⟩ := hk.out v1 HC1.out
  go_wp2_with fail
  refine (great_is t _ _ (HT.out.below HC1.out) HNK.out g HG.out).mono ?_
  rintro e v2 ⟨rfl, hb⟩
  have HC2 := Lib.hid (HC1.out.trans (hb.mono HC1.out.size))
  clear hb a0 a1 a2 a3 a4
  obtain ⟨a0, a1, a2, a3, a4⟩ := hk.out v2 HC2.out
  cases g with
  | true =>
    go_wp2_with fail
    go_ret
    exact ⟨rfl, HB.out.trans (HC2.out.mono HB.out.size)⟩
  | false =>
    have HM : Hid (tnodes t ≤ 100000) := by
      have h1 := of_decide_eq_false HG.out
      have h2 := tn_rn t
      have : tnodes t ≤ 100000 := by omega
      exact this
    clear HG
    by_cases h0 : 10 < len
    · have d0 : decide ((10 : Int) < (len : Int)) = true := by simp; omega
      go_wp2_with fail
      go_ret
      exact ⟨rfl, HB.out.trans (HC2.out.mono HB.out.size)⟩
    have d0 : decide ((10 : Int) < (len : Int)) = false := by simp; omega
    by_cases h1 : kk < 0
    · have d1 : decide (kk < 0) = true := by simp; omega
      go_wp2_with fail
      go_ret
      exact ⟨rfl, HB.out.trans (HC2.out.mono HB.out.size)⟩
    have d1 : decide (kk < 0) = false := by simp; omega
    by_cases h2 : 100 < kk
    · have d2 : decide (100 < kk) = true := by simp; omega
      go_wp2_with fail
      go_ret
      exact ⟨rfl, HB.out.trans (HC2.out.mono HB.out.size)⟩
    have d2 : decide (100 < kk) = false := by simp; omega
    go_wp2_with fail
    refine (refNodes_is t _ 2000 _ (HT.out.below HC2.out) (by omega) R0 HR0.out).mono ?_
    rintro e v3 ⟨rfl, hb⟩
    have HC3 := Lib.hid (HC2.out.trans (hb.mono HC2.out.size))
    clear hb a0 a1 a2 a3 a4
    obtain ⟨a0, a1, a2, a3, a4⟩ := hk.out v3 HC3.out
    go_wp2_with fail
    refine (right_is RN t _ _ (HT.out.below HC3.out) HM.out HNM.out (HCN.out.below (HB.out.trans (HC3.out.mono HB.out.size))) 4 kk b HBB.out).mono ?_
    rintro e v4 ⟨rfl, hb⟩
    have HC4 := Lib.hid (HC3.out.trans (hb.mono HC3.out.size))
    clear hb a0 a1 a2 a3 a4
    obtain ⟨a0, a1, a2, a3, a4⟩ := hk.out v4 HC4.out
    go_wp2_with fail
    go_loopw [7, 8, 9] (fun c r i wr => ∃ (j acc : Nat) (rb : Bool), j ≤ len ∧ i = .int .i64 j ∧ c = .int .i64 acc ∧ r = .bool rb ∧ Hid (R0 + sumM (ts.take j) = acc) ∧ Hid ((b && allR RN kk (ts.take j)) = rb) ∧ acc ≤ 2001 + 2002 * j ∧ Hid (Below W.heap.size W wr)) (fun _ _ i _ => len - (intOf i).toNat)
    case atStart =>
      have h0 : R0 + sumM (ts.take 0) = R0 := by rw [List.take_zero, sumM, Nat.add_zero]
      have h1 : (b && allR RN kk (ts.take 0)) = b := by rw [List.take_zero]; unfold allR; simp
      exact ⟨0, R0, b, Nat.zero_le _, rfl, rfl, rfl, h0, h1, by omega, HC4.out⟩
    case round =>
      obtain ⟨j, acc, rb, hj, rfl, rfl, rfl, hac, har, hab, hgr⟩ := hrel
      by_cases hlt : j < len
      · have hx1 : j < ts.length := by rw [HLEN.out]; exact hlt
        have hln : decide ((j : Int) < (len : Int)) = true := by simp; omega
        obtain ⟨bk, o, l1, s1, eA, hbs, _, hc0, hc1, hc2, hc3, hc4, htm⟩ := tsP_get HTS.out j hx1
        subst eA
        obtain ⟨⟨xa, xl, xc, rfl⟩, ya, yl, yc, rfl⟩ := tmP_slices htm
        have hBw := HB.out.trans (hgr.out.mono HB.out.size)
        have HE0 := Lib.hid (show TmV wr ts[j] (tv ts[j] (.slice xa xl xc) (.slice ya yl yc)) from ⟨_, _, rfl, tmP_below hBw htm⟩)
        dsimp only [tv] at HE0
        have HEN := Lib.hid (nmOkL_mem HNL.out (List.getElem_mem hx1))
        have HEM := Lib.hid (nm_pre ts[j] 0 0 HEN.out)
        obtain ⟨q, hq⟩ : ∃ q, min (tnodes ts[j]) (2000 + 1) = q := ⟨_, rfl⟩
        obtain ⟨ge, hge⟩ : ∃ g, decide (2500 < rn ts[j]) = g := ⟨_, rfl⟩
        obtain ⟨be, hbe⟩ : ∃ b, rightT RN 4 ts[j] kk = b := ⟨_, rfl⟩
        have HQ := Lib.hid hq
        have HGE := Lib.hid hge
        have HBE := Lib.hid hbe
        have hq2 : q ≤ 2001 := by omega
        have HAC : Hid (R0 + sumM (ts.take (j + 1)) = acc + (q + 1)) := by
          have : R0 + sumM (ts.take (j + 1)) = acc + (q + 1) := by
            have h1 := hac.out
            rw [sumM_take hx1, ← hq]
            omega
          exact this
        have HAT := Lib.hid (allR_take (RN := RN) (kk := kk) hx1)
        have HT9 := Lib.hid (tn_rn ts[j])
        generalize hka : tkOf ts[j] = ka at *
        generalize hna : tnOf ts[j] = na at *
        generalize hma : tmOf ts[j] = ma at *
        have HE : Hid (TmV wr ts[j] (.agg #[.int .i64 ka, .int .i64 na, .string ma, .slice xa xl xc, .slice ya yl yc])) := HE0.out
        have hke : Hid (∀ W', Below wr.heap.size wr W' → W'.cell? ⟨bk, o + j * 5, none⟩ = some (.int .i64 ka) ∧ W'.cell? ⟨bk, o + j * 5 + 1, none⟩ = some (.int .i64 na) ∧ W'.cell? ⟨bk, o + j * 5 + 2, none⟩ = some (.string ma) ∧ W'.cell? ⟨bk, o + j * 5 + 3, none⟩ = some (.slice xa xl xc) ∧ W'.cell? ⟨bk, o + j * 5 + 4, none⟩ = some (.slice ya yl yc)) := fun W' h => by
          have hh := hBw.trans (h.mono hBw.size)
          exact ⟨(hh.cell (p := ⟨bk, _, none⟩) hbs).trans hc0, (hh.cell (p := ⟨bk, _, none⟩) hbs).trans hc1, (hh.cell (p := ⟨bk, _, none⟩) hbs).trans hc2, (hh.cell (p := ⟨bk, _, none⟩) hbs).trans hc3, (hh.cell (p := ⟨bk, _, none⟩) hbs).trans hc4⟩
        generalize ts[j] = tj at *
        have q1 : (0 : Int) ≤ (j : Int) := by omega
        have q2 : (j : Int) < (len : Int) := by omega
        have HU0 := Lib.hid (Below.refl wr.heap.size wr)
        obtain ⟨e0, e1, e2, e3, e4⟩ := hke.out wr HU0.out
        clear hq hge hbe hka hna hma htm hc0 hc1 hc2 hc3 hc4 HE0
        go_wp2_with fail
        refine (great_is tj _ _ (HE.out.below HU0.out) HEN.out ge HGE.out).mono ?_
        rintro e u1 ⟨rfl, hb⟩
        have HU1 := Lib.hid (HU0.out.trans (hb.mono HU0.out.size))
        clear hb e0 e1 e2 e3 e4
        obtain ⟨e0, e1, e2, e3, e4⟩ := hke.out u1 HU1.out
        cases ge with
        | true =>
          go_wp2_with fail
          go_ret
          exact ⟨rfl, HB.out.trans ((hgr.out.trans (HU1.out.mono hgr.out.size)).mono HB.out.size)⟩
        | false =>
          have HME : Hid (tnodes tj ≤ 100000) := by
            have h1 := of_decide_eq_false HGE.out
            have h2 := HT9.out
            have : tnodes tj ≤ 100000 := by omega
            exact this
          go_wp2_with fail
          refine (refNodes_is tj _ 2000 _ (HE.out.below HU1.out) (by omega) q HQ.out).mono ?_
          rintro e u2 ⟨rfl, hb⟩
          have HU2 := Lib.hid (HU1.out.trans (hb.mono HU1.out.size))
          clear hb e0 e1 e2 e3 e4
          obtain ⟨e0, e1, e2, e3, e4⟩ := hke.out u2 HU2.out
          cases rb with
          | false =>
            have HAR : Hid ((b && allR RN kk (ts.take (j + 1))) = false) := by
              have : (b && allR RN kk (ts.take (j + 1))) = false := by
                have h1 := har.out
                rw [HAT.out, ← Bool.and_assoc, h1, Bool.false_and]
              exact this
            go_wp2_with fail
            go_roundw
            case rel => exact ⟨j + 1, acc + (q + 1), false, by omega, by go_num, by go_num, rfl, HAC.out, HAR.out, by omega, hgr.out.trans (HU2.out.mono hgr.out.size)⟩
            case measure => simp [intOf]; omega
          | true =>
            have HAR : Hid ((b && allR RN kk (ts.take (j + 1))) = be) := by
              have : (b && allR RN kk (ts.take (j + 1))) = be := by
                have h1 := har.out
                rw [HAT.out, ← Bool.and_assoc, h1, Bool.true_and]
                exact HBE.out
              exact this
            go_wp2_with fail
            refine (right_is RN tj _ _ (HE.out.below HU2.out) HME.out HEM.out (HCN.out.below (HB.out.trans ((hgr.out.trans (HU2.out.mono hgr.out.size)).mono HB.out.size))) 4 kk be HBE.out).mono ?_
            rintro e u3 ⟨rfl, hb⟩
            have HU3 := Lib.hid (HU2.out.trans (hb.mono HU2.out.size))
            clear hb e0 e1 e2 e3 e4
            obtain ⟨e0, e1, e2, e3, e4⟩ := hke.out u3 HU3.out
            go_wp2_with fail
            go_roundw
            case rel => exact ⟨j + 1, acc + (q + 1), be, by omega, by go_num, by go_num, rfl, HAC.out, HAR.out, by omega, hgr.out.trans (HU3.out.mono hgr.out.size)⟩
            case measure => simp [intOf]; omega
      · obtain rfl : j = len := by omega
        have hln : decide ((j : Int) < (j : Int)) = false := by simp
        have HAC := Lib.hid hac.out
        have HAR := Lib.hid har.out
        have htk : ts.take j = ts := List.take_of_length_le (by rw [HLEN.out]; exact Nat.le_refl _)
        rw [htk] at HAC HAR
        clear hac har
        have HC5 := Lib.hid hgr.out
        cases rb with
        | false =>
          go_wp2_with fail
          go_ret
          exact ⟨rfl, HB.out.trans (HC5.out.mono HB.out.size)⟩
        | true =>
          by_cases hbig : 2000 < acc
          · have d5 : decide ((2000 : Int) < (acc : Int)) = true := by simp; omega
            go_wp2_with fail
            go_ret
            exact ⟨rfl, HB.out.trans (HC5.out.mono HB.out.size)⟩
          · have d5 : decide ((2000 : Int) < (acc : Int)) = false := by simp; omega
            have HMD := Lib.hid (made_of (f := t) (ts := ts) (M := acc) (by have h := HAR.out; rw [Bool.and_eq_true] at h; rw [HBB.out]; exact h.1) (by have h := HAR.out; rw [Bool.and_eq_true] at h; exact h.2) (by rw [show min (tnodes t) 2001 = R0 from HR0.out]; exact HAC.out) (by omega) (by omega))
            clear a0 a1 a2 a3 a4
            obtain ⟨a0, a1, a2, a3, a4⟩ := hk.out wr HC5.out
            go_wp2_with fail
            refine (app_is t _ ts _ j cap _ (HT.out.below HC5.out) (Nat.le_trans HMD.out.nf (by decide)) HMD.out.lf HLEN.out hlc (by omega) (tsP_below (HB.out.trans (HC5.out.mono HB.out.size)) HTS.out) HMD.out.each).mono ?_
            rintro e v6 ⟨l9, s9, rfl, ht, hb⟩
            obtain ⟨⟨laA, llA, lcA, rfl⟩, saA, slA, scA, rfl⟩ := tmP_slices ht
            dsimp only [tv]
            obtain ⟨kA, hkA⟩ : ∃ q, tkOf (apps t ts) = q := ⟨_, rfl⟩
            obtain ⟨nA, hnA⟩ : ∃ q, tnOf (apps t ts) = q := ⟨_, rfl⟩
            obtain ⟨mA, hmA⟩ : ∃ q, tmOf (apps t ts) = q := ⟨_, rfl⟩
            rw [hkA, hnA, hmA]
            have hbx := below_lit v6 (.cells #[.int .i64 kA, .int .i64 nA, .string mA, .slice laA llA lcA, .slice saA slA scA] 25)
            have HD6 := Lib.hid (hb.trans (hbx.mono hb.size))
            have HXA := Lib.hid (heap_alloc_new v6 (.cells #[.int .i64 kA, .int .i64 nA, .string mA, .slice laA llA lcA, .slice saA slA scA] 25))
            have HSA := Lib.hid (show v6.heap.size < (v6.alloc (.cells #[.int .i64 kA, .int .i64 nA, .string mA, .slice laA llA lcA, .slice saA slA scA] 25)).heap.size by simp)
            have HVA : Hid (TmV (v6.alloc (.cells #[.int .i64 kA, .int .i64 nA, .string mA, .slice laA llA lcA, .slice saA slA scA] 25)) (apps t ts) (.agg #[.int .i64 kA, .int .i64 nA, .string mA, .slice laA llA lcA, .slice saA slA scA])) := by
              have : TmV (v6.alloc (.cells #[.int .i64 kA, .int .i64 nA, .string mA, .slice laA llA lcA, .slice saA slA scA] 25)) (apps t ts) (.agg #[.int .i64 kA, .int .i64 nA, .string mA, .slice laA llA lcA, .slice saA slA scA]) := ⟨_, _, by rw [← hkA, ← hnA, ← hmA], tmP_below hbx (tmP_weak (fun _ _ => trivial) ht)⟩
              exact this
            have HC6 := Lib.hid (HC5.out.trans (HD6.out.mono HC5.out.size))
            clear ht hb hbx HD6 hkA hnA hmA
            clear a0 a1 a2 a3 a4
            obtain ⟨a0, a1, a2, a3, a4⟩ := hk.out (v6.alloc (.cells #[.int .i64 kA, .int .i64 nA, .string mA, .slice laA llA lcA, .slice saA slA scA] 25)) HC6.out
            go_wp2_with fail
            generalize v6.alloc (.cells #[.int .i64 kA, .int .i64 nA, .string mA, .slice laA llA lcA, .slice saA slA scA] 25) = W6 at *
            generalize v6.heap.size = BA at *
            refine (lam_is t _ ts _ j cap _ (HT.out.below HC6.out) (Nat.le_trans HMD.out.nf (by decide)) HMD.out.lf HLEN.out hlc (by omega) (tsP_below (HB.out.trans (HC6.out.mono HB.out.size)) HTS.out) HMD.out.each).mono ?_
            rintro e v7 ⟨l9, s9, rfl, ht, hb⟩
            obtain ⟨⟨laL, llL, lcL, rfl⟩, saL, slL, scL, rfl⟩ := tmP_slices ht
            dsimp only [tv]
            obtain ⟨kL, hkL⟩ : ∃ q, tkOf (over 5 t ts) = q := ⟨_, rfl⟩
            obtain ⟨nL, hnL⟩ : ∃ q, tnOf (over 5 t ts) = q := ⟨_, rfl⟩
            obtain ⟨mL, hmL⟩ : ∃ q, tmOf (over 5 t ts) = q := ⟨_, rfl⟩
            rw [hkL, hnL, hmL]
            have hbx := below_lit v7 (.cells #[.int .i64 kL, .int .i64 nL, .string mL, .slice laL llL lcL, .slice saL slL scL] 25)
            have HD7 := Lib.hid (hb.trans (hbx.mono hb.size))
            have HXL := Lib.hid (heap_alloc_new v7 (.cells #[.int .i64 kL, .int .i64 nL, .string mL, .slice laL llL lcL, .slice saL slL scL] 25))
            have HSL := Lib.hid (show v7.heap.size < (v7.alloc (.cells #[.int .i64 kL, .int .i64 nL, .string mL, .slice laL llL lcL, .slice saL slL scL] 25)).heap.size by simp)
            have HVL : Hid (TmV (v7.alloc (.cells #[.int .i64 kL, .int .i64 nL, .string mL, .slice laL llL lcL, .slice saL slL scL] 25)) (over 5 t ts) (.agg #[.int .i64 kL, .int .i64 nL, .string mL, .slice laL llL lcL, .slice saL slL scL])) := by
              have : TmV (v7.alloc (.cells #[.int .i64 kL, .int .i64 nL, .string mL, .slice laL llL lcL, .slice saL slL scL] 25)) (over 5 t ts) (.agg #[.int .i64 kL, .int .i64 nL, .string mL, .slice laL llL lcL, .slice saL slL scL]) := ⟨_, _, by rw [← hkL, ← hnL, ← hmL], tmP_below hbx (tmP_weak (fun _ _ => trivial) ht)⟩
              exact this
            have HC7 := Lib.hid (HC6.out.trans (HD7.out.mono HC6.out.size))
            have HXA' := Lib.hid ((HD7.out.block BA HSA.out).trans HXA.out)
            have HSA' := Lib.hid (Nat.lt_of_lt_of_le HSA.out HD7.out.size)
            have HVA' := Lib.hid (HVA.out.below HD7.out)
            clear HXA HSA HVA
            have HXA := Lib.hid HXA'.out
            have HSA := Lib.hid HSA'.out
            have HVA := Lib.hid HVA'.out
            clear HXA' HSA' HVA'
            clear ht hb hbx HD7 hkL hnL hmL
            clear a0 a1 a2 a3 a4
            obtain ⟨a0, a1, a2, a3, a4⟩ := hk.out (v7.alloc (.cells #[.int .i64 kL, .int .i64 nL, .string mL, .slice laL llL lcL, .slice saL slL scL] 25)) HC7.out
            go_wp2_with fail
            generalize v7.alloc (.cells #[.int .i64 kL, .int .i64 nL, .string mL, .slice laL llL lcL, .slice saL slL scL] 25) = W7 at *
            generalize v7.heap.size = BL at *
            refine (pi_is t _ ts _ j cap _ (HT.out.below HC7.out) (Nat.le_trans HMD.out.nf (by decide)) HMD.out.lf HLEN.out hlc (by omega) (tsP_below (HB.out.trans (HC7.out.mono HB.out.size)) HTS.out) HMD.out.each).mono ?_
            rintro e v8 ⟨l9, s9, rfl, ht, hb⟩
            obtain ⟨⟨laP, llP, lcP, rfl⟩, saP, slP, scP, rfl⟩ := tmP_slices ht
            dsimp only [tv]
            obtain ⟨kP, hkP⟩ : ∃ q, tkOf (over 6 t ts) = q := ⟨_, rfl⟩
            obtain ⟨nP, hnP⟩ : ∃ q, tnOf (over 6 t ts) = q := ⟨_, rfl⟩
            obtain ⟨mP, hmP⟩ : ∃ q, tmOf (over 6 t ts) = q := ⟨_, rfl⟩
            rw [hkP, hnP, hmP]
            have hbx := below_lit v8 (.cells #[.int .i64 kP, .int .i64 nP, .string mP, .slice laP llP lcP, .slice saP slP scP] 25)
            have HD8 := Lib.hid (hb.trans (hbx.mono hb.size))
            have HXP := Lib.hid (heap_alloc_new v8 (.cells #[.int .i64 kP, .int .i64 nP, .string mP, .slice laP llP lcP, .slice saP slP scP] 25))
            have HSP := Lib.hid (show v8.heap.size < (v8.alloc (.cells #[.int .i64 kP, .int .i64 nP, .string mP, .slice laP llP lcP, .slice saP slP scP] 25)).heap.size by simp)
            have HVP : Hid (TmV (v8.alloc (.cells #[.int .i64 kP, .int .i64 nP, .string mP, .slice laP llP lcP, .slice saP slP scP] 25)) (over 6 t ts) (.agg #[.int .i64 kP, .int .i64 nP, .string mP, .slice laP llP lcP, .slice saP slP scP])) := by
              have : TmV (v8.alloc (.cells #[.int .i64 kP, .int .i64 nP, .string mP, .slice laP llP lcP, .slice saP slP scP] 25)) (over 6 t ts) (.agg #[.int .i64 kP, .int .i64 nP, .string mP, .slice laP llP lcP, .slice saP slP scP]) := ⟨_, _, by rw [← hkP, ← hnP, ← hmP], tmP_below hbx (tmP_weak (fun _ _ => trivial) ht)⟩
              exact this
            have HC8 := Lib.hid (HC7.out.trans (HD8.out.mono HC7.out.size))
            have HXA' := Lib.hid ((HD8.out.block BA HSA.out).trans HXA.out)
            have HSA' := Lib.hid (Nat.lt_of_lt_of_le HSA.out HD8.out.size)
            have HVA' := Lib.hid (HVA.out.below HD8.out)
            clear HXA HSA HVA
            have HXA := Lib.hid HXA'.out
            have HSA := Lib.hid HSA'.out
            have HVA := Lib.hid HVA'.out
            clear HXA' HSA' HVA'
            have HXL' := Lib.hid ((HD8.out.block BL HSL.out).trans HXL.out)
            have HSL' := Lib.hid (Nat.lt_of_lt_of_le HSL.out HD8.out.size)
            have HVL' := Lib.hid (HVL.out.below HD8.out)
            clear HXL HSL HVL
            have HXL := Lib.hid HXL'.out
            have HSL := Lib.hid HSL'.out
            have HVL := Lib.hid HVL'.out
            clear HXL' HSL' HVL'
            clear ht hb hbx HD8 hkP hnP hmP
            clear a0 a1 a2 a3 a4
            obtain ⟨c0, c1, c2, c3, c4⟩ := five_cells HXA.out
            go_wp2_with fail
            generalize v8.alloc (.cells #[.int .i64 kP, .int .i64 nP, .string mP, .slice laP llP lcP, .slice saP slP scP] 25) = W8 at *
            generalize v8.heap.size = BP at *
            have hsp := spine_is (apps t ts) _ W8 HVA.out (by have := HMD.out.na; have := HMD.out.le; omega) (right_lvOk HMD.out.ra)
            unfold SpRet at hsp
            rw [spine_apps] at hsp
            refine (hsp).mono ?_
            rintro e v9 ⟨l9, s9, QA1, ql1, qc1, rfl, hql1, _, _, ht, _, hb⟩
            obtain ⟨⟨laH, llH, lcH, rfl⟩, saH, slH, scH, rfl⟩ := tmP_slices ht
            dsimp only [tv]
            obtain ⟨kH, hkH⟩ : ∃ q, tkOf (spine t).1 = q := ⟨_, rfl⟩
            obtain ⟨nH, hnH⟩ : ∃ q, tnOf (spine t).1 = q := ⟨_, rfl⟩
            obtain ⟨mH, hmH⟩ : ∃ q, tmOf (spine t).1 = q := ⟨_, rfl⟩
            rw [hkH, hnH, hmH]
            have hbx := below_lit v9 (.cells #[.int .i64 kH, .int .i64 nH, .string mH, .slice laH llH lcH, .slice saH slH scH] 25)
            have HD9 := Lib.hid (hb.trans (hbx.mono hb.size))
            have HXH := Lib.hid (heap_alloc_new v9 (.cells #[.int .i64 kH, .int .i64 nH, .string mH, .slice laH llH lcH, .slice saH slH scH] 25))
            have HSH := Lib.hid (show v9.heap.size < (v9.alloc (.cells #[.int .i64 kH, .int .i64 nH, .string mH, .slice laH llH lcH, .slice saH slH scH] 25)).heap.size by simp)
            have HVH : Hid (TmV (v9.alloc (.cells #[.int .i64 kH, .int .i64 nH, .string mH, .slice laH llH lcH, .slice saH slH scH] 25)) (spine t).1 (.agg #[.int .i64 kH, .int .i64 nH, .string mH, .slice laH llH lcH, .slice saH slH scH])) := by
              have : TmV (v9.alloc (.cells #[.int .i64 kH, .int .i64 nH, .string mH, .slice laH llH lcH, .slice saH slH scH] 25)) (spine t).1 (.agg #[.int .i64 kH, .int .i64 nH, .string mH, .slice laH llH lcH, .slice saH slH scH]) := ⟨_, _, by rw [← hkH, ← hnH, ← hmH], tmP_below hbx (tmP_weak (fun _ _ => trivial) ht)⟩
              exact this
            have HQ1 := Lib.hid hql1
            clear hql1
            have HC9 := Lib.hid (HC8.out.trans (HD9.out.mono HC8.out.size))
            have HXA' := Lib.hid ((HD9.out.block BA HSA.out).trans HXA.out)
            have HSA' := Lib.hid (Nat.lt_of_lt_of_le HSA.out HD9.out.size)
            have HVA' := Lib.hid (HVA.out.below HD9.out)
            clear HXA HSA HVA
            have HXA := Lib.hid HXA'.out
            have HSA := Lib.hid HSA'.out
            have HVA := Lib.hid HVA'.out
            clear HXA' HSA' HVA'
            have HXL' := Lib.hid ((HD9.out.block BL HSL.out).trans HXL.out)
            have HSL' := Lib.hid (Nat.lt_of_lt_of_le HSL.out HD9.out.size)
            have HVL' := Lib.hid (HVL.out.below HD9.out)
            clear HXL HSL HVL
            have HXL := Lib.hid HXL'.out
            have HSL := Lib.hid HSL'.out
            have HVL := Lib.hid HVL'.out
            clear HXL' HSL' HVL'
            have HXP' := Lib.hid ((HD9.out.block BP HSP.out).trans HXP.out)
            have HSP' := Lib.hid (Nat.lt_of_lt_of_le HSP.out HD9.out.size)
            have HVP' := Lib.hid (HVP.out.below HD9.out)
            clear HXP HSP HVP
            have HXP := Lib.hid HXP'.out
            have HSP := Lib.hid HSP'.out
            have HVP := Lib.hid HVP'.out
            clear HXP' HSP' HVP'
            clear ht hb hbx HD9 hkH hnH hmH
            clear c0 c1 c2 c3 c4 hsp
            obtain ⟨a0, a1, a2, a3, a4⟩ := hk.out (v9.alloc (.cells #[.int .i64 kH, .int .i64 nH, .string mH, .slice laH llH lcH, .slice saH slH scH] 25)) HC9.out
            go_wp2_with fail
            generalize v9.alloc (.cells #[.int .i64 kH, .int .i64 nH, .string mH, .slice laH llH lcH, .slice saH slH scH] 25) = W9 at *
            generalize v9.heap.size = BH at *
            have hsp := spine_is t _ W9 (HT.out.below HC9.out) (Nat.le_trans HMD.out.nf (by decide)) HMD.out.lf
            unfold SpRet at hsp
            refine (hsp).mono ?_
            rintro e v10 ⟨l9, s9, QA2, ql2, qc2, rfl, hql2, _, _, ht, _, hb⟩
            obtain ⟨⟨laG, llG, lcG, rfl⟩, saG, slG, scG, rfl⟩ := tmP_slices ht
            dsimp only [tv]
            obtain ⟨kG, hkG⟩ : ∃ q, tkOf (spine t).1 = q := ⟨_, rfl⟩
            obtain ⟨nG, hnG⟩ : ∃ q, tnOf (spine t).1 = q := ⟨_, rfl⟩
            obtain ⟨mG, hmG⟩ : ∃ q, tmOf (spine t).1 = q := ⟨_, rfl⟩
            rw [hkG, hnG, hmG]
            have hbx := below_lit v10 (.cells #[.int .i64 kG, .int .i64 nG, .string mG, .slice laG llG lcG, .slice saG slG scG] 25)
            have HD10 := Lib.hid (hb.trans (hbx.mono hb.size))
            have HXG := Lib.hid (heap_alloc_new v10 (.cells #[.int .i64 kG, .int .i64 nG, .string mG, .slice laG llG lcG, .slice saG slG scG] 25))
            have HSG := Lib.hid (show v10.heap.size < (v10.alloc (.cells #[.int .i64 kG, .int .i64 nG, .string mG, .slice laG llG lcG, .slice saG slG scG] 25)).heap.size by simp)
            have HVG : Hid (TmV (v10.alloc (.cells #[.int .i64 kG, .int .i64 nG, .string mG, .slice laG llG lcG, .slice saG slG scG] 25)) (spine t).1 (.agg #[.int .i64 kG, .int .i64 nG, .string mG, .slice laG llG lcG, .slice saG slG scG])) := by
              have : TmV (v10.alloc (.cells #[.int .i64 kG, .int .i64 nG, .string mG, .slice laG llG lcG, .slice saG slG scG] 25)) (spine t).1 (.agg #[.int .i64 kG, .int .i64 nG, .string mG, .slice laG llG lcG, .slice saG slG scG]) := ⟨_, _, by rw [← hkG, ← hnG, ← hmG], tmP_below hbx (tmP_weak (fun _ _ => trivial) ht)⟩
              exact this
            have HQ2 := Lib.hid hql2
            clear hql2
            have HC10 := Lib.hid (HC9.out.trans (HD10.out.mono HC9.out.size))
            have HXA' := Lib.hid ((HD10.out.block BA HSA.out).trans HXA.out)
            have HSA' := Lib.hid (Nat.lt_of_lt_of_le HSA.out HD10.out.size)
            have HVA' := Lib.hid (HVA.out.below HD10.out)
            clear HXA HSA HVA
            have HXA := Lib.hid HXA'.out
            have HSA := Lib.hid HSA'.out
            have HVA := Lib.hid HVA'.out
            clear HXA' HSA' HVA'
            have HXL' := Lib.hid ((HD10.out.block BL HSL.out).trans HXL.out)
            have HSL' := Lib.hid (Nat.lt_of_lt_of_le HSL.out HD10.out.size)
            have HVL' := Lib.hid (HVL.out.below HD10.out)
            clear HXL HSL HVL
            have HXL := Lib.hid HXL'.out
            have HSL := Lib.hid HSL'.out
            have HVL := Lib.hid HVL'.out
            clear HXL' HSL' HVL'
            have HXP' := Lib.hid ((HD10.out.block BP HSP.out).trans HXP.out)
            have HSP' := Lib.hid (Nat.lt_of_lt_of_le HSP.out HD10.out.size)
            have HVP' := Lib.hid (HVP.out.below HD10.out)
            clear HXP HSP HVP
            have HXP := Lib.hid HXP'.out
            have HSP := Lib.hid HSP'.out
            have HVP := Lib.hid HVP'.out
            clear HXP' HSP' HVP'
            have HXH' := Lib.hid ((HD10.out.block BH HSH.out).trans HXH.out)
            have HSH' := Lib.hid (Nat.lt_of_lt_of_le HSH.out HD10.out.size)
            have HVH' := Lib.hid (HVH.out.below HD10.out)
            clear HXH HSH HVH
            have HXH := Lib.hid HXH'.out
            have HSH := Lib.hid HSH'.out
            have HVH := Lib.hid HVH'.out
            clear HXH' HSH' HVH'
            clear ht hb hbx HD10 hkG hnG hmG
            clear hsp a0 a1 a2 a3 a4
            go_upto_region 21 with fail
            generalize v10.alloc (.cells #[.int .i64 kG, .int .i64 nG, .string mG, .slice laG llG lcG, .slice saG slG scG] 25) = W10 at *
            generalize v10.heap.size = BG at *
            have hk9 : Hid (∀ W', Below W10.heap.size W10 W' → W'.cell? ⟨BA, 0, none⟩ = some (.int .i64 kA) ∧ W'.cell? ⟨BA, 1, none⟩ = some (.int .i64 nA) ∧ W'.cell? ⟨BA, 2, none⟩ = some (.string mA) ∧ W'.cell? ⟨BA, 3, none⟩ = some (.slice laA llA lcA) ∧ W'.cell? ⟨BA, 4, none⟩ = some (.slice saA slA scA) ∧ W'.cell? ⟨BL, 0, none⟩ = some (.int .i64 kL) ∧ W'.cell? ⟨BL, 1, none⟩ = some (.int .i64 nL) ∧ W'.cell? ⟨BL, 2, none⟩ = some (.string mL) ∧ W'.cell? ⟨BL, 3, none⟩ = some (.slice laL llL lcL) ∧ W'.cell? ⟨BL, 4, none⟩ = some (.slice saL slL scL) ∧ W'.cell? ⟨BP, 0, none⟩ = some (.int .i64 kP) ∧ W'.cell? ⟨BP, 1, none⟩ = some (.int .i64 nP) ∧ W'.cell? ⟨BP, 2, none⟩ = some (.string mP) ∧ W'.cell? ⟨BP, 3, none⟩ = some (.slice laP llP lcP) ∧ W'.cell? ⟨BP, 4, none⟩ = some (.slice saP slP scP) ∧ W'.cell? ⟨BH, 0, none⟩ = some (.int .i64 kH) ∧ W'.cell? ⟨BH, 1, none⟩ = some (.int .i64 nH) ∧ W'.cell? ⟨BH, 2, none⟩ = some (.string mH) ∧ W'.cell? ⟨BH, 3, none⟩ = some (.slice laH llH lcH) ∧ W'.cell? ⟨BH, 4, none⟩ = some (.slice saH slH scH) ∧ W'.cell? ⟨BG, 0, none⟩ = some (.int .i64 kG) ∧ W'.cell? ⟨BG, 1, none⟩ = some (.int .i64 nG) ∧ W'.cell? ⟨BG, 2, none⟩ = some (.string mG) ∧ W'.cell? ⟨BG, 3, none⟩ = some (.slice laG llG lcG) ∧ W'.cell? ⟨BG, 4, none⟩ = some (.slice saG slG scG)) := fun W' h => by
              obtain ⟨cA0, cA1, cA2, cA3, cA4⟩ := five_cells ((h.block BA HSA.out).trans HXA.out)
              obtain ⟨cL0, cL1, cL2, cL3, cL4⟩ := five_cells ((h.block BL HSL.out).trans HXL.out)
              obtain ⟨cP0, cP1, cP2, cP3, cP4⟩ := five_cells ((h.block BP HSP.out).trans HXP.out)
              obtain ⟨cH0, cH1, cH2, cH3, cH4⟩ := five_cells ((h.block BH HSH.out).trans HXH.out)
              obtain ⟨cG0, cG1, cG2, cG3, cG4⟩ := five_cells ((h.block BG HSG.out).trans HXG.out)
              exact ⟨cA0, cA1, cA2, cA3, cA4, cL0, cL1, cL2, cL3, cL4, cP0, cP1, cP2, cP3, cP4, cH0, cH1, cH2, cH3, cH4, cG0, cG1, cG2, cG3, cG4⟩
            have HD : Hid (Below W10.heap.size W10 W10.drew) := (Below.refl _ _).drew
            have HB10 := Lib.hid (HB.out.trans (HC10.out.mono HB.out.size))
            have b1 : ((acc : Int) == (acc : Int)) = true := by simp
            have hl9 : ql1 = ql2 + j := by
              have h1 := HQ1.out
              have h2 := HQ2.out
              rw [List.length_append, HLEN.out] at h1
              omega
            subst hl9
            have HSB := Lib.hid (show ql2 ≤ 2000 by
              have h2 := HQ2.out
              have h3 := spine_len t
              have h4 := HMD.out.nf
              omega)
            have hsb := HSB.out
            have hw1 : IntKind.i64.wrap ((ql2 : Int) + (j : Int)) = (ql2 : Int) + (j : Int) := IntWalk.i64_in _ ⟨by omega, by omega⟩
            have b2 : (((ql2 + j : Nat) : Int) == (ql2 : Int) + (j : Int)) = true := by simp
            have b3 : ((ql2 : Int) + (j : Int) == (ql2 : Int) + (j : Int)) = true := by simp
            have HNA := Lib.hid (nm_pre _ 0 0 (nmOk_apps ts t HNK.out HNL.out))
            have HNO := Lib.hid (fun kd => nm_pre _ 0 0 (nmOk_over kd t ts HNK.out HNL.out))
            have HKA : Hid (tnodes (apps t ts) ≤ 100000 ∧ tnodes (over 5 t ts) ≤ 100000 ∧ tnodes (over 6 t ts) ≤ 100000) := by
              have h0 := HMD.out.le
              have h1 := HMD.out.na
              have h2 := HMD.out.nl
              have h3 := HMD.out.np
              have : tnodes (apps t ts) ≤ 100000 ∧ tnodes (over 5 t ts) ≤ 100000 ∧ tnodes (over 6 t ts) ≤ 100000 := ⟨by omega, by omega, by omega⟩
              exact this
            have HMN : Hid (min (tnodes (apps t ts)) 2001 = acc ∧ min (tnodes (over 5 t ts)) 2001 = acc ∧ min (tnodes (over 6 t ts)) 2001 = acc) := by
              have h0 := HMD.out.le
              have h1 := HMD.out.na
              have h2 := HMD.out.nl
              have h3 := HMD.out.np
              have : min (tnodes (apps t ts)) 2001 = acc ∧ min (tnodes (over 5 t ts)) 2001 = acc ∧ min (tnodes (over 6 t ts)) 2001 = acc := ⟨by omega, by omega, by omega⟩
              exact this
            refine wp_region_held_drew (S := fun W' => W'.cell? ⟨BA, 0, none⟩ = some (.int .i64 kA) ∧ W'.cell? ⟨BA, 1, none⟩ = some (.int .i64 nA) ∧ W'.cell? ⟨BA, 2, none⟩ = some (.string mA) ∧ W'.cell? ⟨BA, 3, none⟩ = some (.slice laA llA lcA) ∧ W'.cell? ⟨BA, 4, none⟩ = some (.slice saA slA scA) ∧ W'.cell? ⟨BL, 0, none⟩ = some (.int .i64 kL) ∧ W'.cell? ⟨BL, 1, none⟩ = some (.int .i64 nL) ∧ W'.cell? ⟨BL, 2, none⟩ = some (.string mL) ∧ W'.cell? ⟨BL, 3, none⟩ = some (.slice laL llL lcL) ∧ W'.cell? ⟨BL, 4, none⟩ = some (.slice saL slL scL) ∧ W'.cell? ⟨BP, 0, none⟩ = some (.int .i64 kP) ∧ W'.cell? ⟨BP, 1, none⟩ = some (.int .i64 nP) ∧ W'.cell? ⟨BP, 2, none⟩ = some (.string mP) ∧ W'.cell? ⟨BP, 3, none⟩ = some (.slice laP llP lcP) ∧ W'.cell? ⟨BP, 4, none⟩ = some (.slice saP slP scP) ∧ W'.cell? ⟨BH, 0, none⟩ = some (.int .i64 kH) ∧ W'.cell? ⟨BH, 1, none⟩ = some (.int .i64 nH) ∧ W'.cell? ⟨BH, 2, none⟩ = some (.string mH) ∧ W'.cell? ⟨BH, 3, none⟩ = some (.slice laH llH lcH) ∧ W'.cell? ⟨BH, 4, none⟩ = some (.slice saH slH scH) ∧ W'.cell? ⟨BG, 0, none⟩ = some (.int .i64 kG) ∧ W'.cell? ⟨BG, 1, none⟩ = some (.int .i64 nG) ∧ W'.cell? ⟨BG, 2, none⟩ = some (.string mG) ∧ W'.cell? ⟨BG, 3, none⟩ = some (.slice laG llG lcG) ∧ W'.cell? ⟨BG, 4, none⟩ = some (.slice saG slG scG)) (by kernel_rfl) (hk9.out _ HD.out) (fun hHeld => ?_)
            refine take_in (i := 0) (v := ?_) rfl (by kernel_rfl) (by kernel_rfl) (by kernel_rfl) (fun _ _ _ h => h) (by rfl) ?_ hHeld ?_
            rotate_left
            · intro w hSw
              (try dsimp only at hSw)
              go_simp
              try with_reducible rfl
            try simp only [Act.put, List.setIfInBounds_toArray, List.set_cons_zero, List.set_cons_succ]
            refine take_in (i := 1) (v := ?_) rfl (by kernel_rfl) (by kernel_rfl) (by kernel_rfl) (fun _ _ _ h => h) (by rfl) ?_ hHeld ?_
            rotate_left
            · intro w hSw
              (try dsimp only at hSw)
              go_simp
              try with_reducible rfl
            try simp only [Act.put, List.setIfInBounds_toArray, List.set_cons_zero, List.set_cons_succ]
            refine call_in (i := 2) rfl (by kernel_rfl) (fun K hK => ?_)
            clear hHeld
            go_simp
            (go_at_call 14; refine (right_is RN (apps t ts) _ _ (HVA.out.below HD.out) HKA.out.1 HNA.out (HCN.out.below (HB10.out.trans (HD.out.mono HB10.out.size))) 4 kk true HMD.out.ra).mono ?_; rintro e y1 ⟨rfl, hb9⟩; have hy1 : Hid (Below W10.heap.size W10 y1) := HD.out.trans (hb9.mono HD.out.size); clear hb9)
            try (go_wp2_with fail)
            refine hK.out _ _ (hk9.out _ hy1.out) (fun hHeld => ?_)
            clear hK K
            try simp only [Act.put, List.setIfInBounds_toArray, List.set_cons_zero, List.set_cons_succ]
            refine take_in (i := 3) (v := ?_) rfl (by kernel_rfl) (by kernel_rfl) (by kernel_rfl) (fun _ _ _ h => h) (by rfl) ?_ hHeld ?_
            rotate_left
            · intro w hSw
              (try dsimp only at hSw)
              go_simp
              try with_reducible rfl
            try simp only [Act.put, List.setIfInBounds_toArray, List.set_cons_zero, List.set_cons_succ]
            refine take_in (i := 4) (v := ?_) rfl (by kernel_rfl) (by kernel_rfl) (by kernel_rfl) (fun _ _ _ h => h) (by rfl) ?_ hHeld ?_
            rotate_left
            · intro w hSw
              (try dsimp only at hSw)
              go_simp
              try with_reducible rfl
            try simp only [Act.put, List.setIfInBounds_toArray, List.set_cons_zero, List.set_cons_succ]
            refine take_in (i := 5) (v := ?_) rfl (by kernel_rfl) (by kernel_rfl) (by kernel_rfl) (fun _ _ _ h => h) (by rfl) ?_ hHeld ?_
            rotate_left
            · intro w hSw
              (try dsimp only at hSw)
              go_simp
              try with_reducible rfl
            try simp only [Act.put, List.setIfInBounds_toArray, List.set_cons_zero, List.set_cons_succ]
            refine call_in (i := 6) rfl (by kernel_rfl) (fun K hK => ?_)
            clear hHeld
            go_simp
            (go_at_call 14; refine (right_is RN (over 5 t ts) _ _ (HVL.out.below hy1.out) HKA.out.2.1 (HNO.out 5) (HCN.out.below (HB10.out.trans (hy1.out.mono HB10.out.size))) 4 kk true HMD.out.rl).mono ?_; rintro e y2 ⟨rfl, hb9⟩; have hy2 : Hid (Below W10.heap.size W10 y2) := hy1.out.trans (hb9.mono hy1.out.size); clear hb9)
            try (go_wp2_with fail)
            refine hK.out _ _ (hk9.out _ hy2.out) (fun hHeld => ?_)
            clear hK K
            try simp only [Act.put, List.setIfInBounds_toArray, List.set_cons_zero, List.set_cons_succ]
            refine take_in (i := 7) (v := ?_) rfl (by kernel_rfl) (by kernel_rfl) (by kernel_rfl) (fun _ _ _ h => h) (by rfl) ?_ hHeld ?_
            rotate_left
            · intro w hSw
              (try dsimp only at hSw)
              go_simp
              try with_reducible rfl
            try simp only [Act.put, List.setIfInBounds_toArray, List.set_cons_zero, List.set_cons_succ]
            refine take_in (i := 8) (v := ?_) rfl (by kernel_rfl) (by kernel_rfl) (by kernel_rfl) (fun _ _ _ h => h) (by rfl) ?_ hHeld ?_
            rotate_left
            · intro w hSw
              (try dsimp only at hSw)
              go_simp
              try with_reducible rfl
            try simp only [Act.put, List.setIfInBounds_toArray, List.set_cons_zero, List.set_cons_succ]
            refine take_in (i := 9) (v := ?_) rfl (by kernel_rfl) (by kernel_rfl) (by kernel_rfl) (fun _ _ _ h => h) (by rfl) ?_ hHeld ?_
            rotate_left
            · intro w hSw
              (try dsimp only at hSw)
              go_simp
              try with_reducible rfl
            try simp only [Act.put, List.setIfInBounds_toArray, List.set_cons_zero, List.set_cons_succ]
            refine take_in (i := 10) (v := ?_) rfl (by kernel_rfl) (by kernel_rfl) (by kernel_rfl) (fun _ _ _ h => h) (by rfl) ?_ hHeld ?_
            rotate_left
            · intro w hSw
              (try dsimp only at hSw)
              go_simp
              try with_reducible rfl
            try simp only [Act.put, List.setIfInBounds_toArray, List.set_cons_zero, List.set_cons_succ]
            refine call_in (i := 11) rfl (by kernel_rfl) (fun K hK => ?_)
            clear hHeld
            go_simp
            (go_at_call 14; refine (right_is RN (over 6 t ts) _ _ (HVP.out.below hy2.out) HKA.out.2.2 (HNO.out 6) (HCN.out.below (HB10.out.trans (hy2.out.mono HB10.out.size))) 4 kk true HMD.out.rp).mono ?_; rintro e y3 ⟨rfl, hb9⟩; have hy3 : Hid (Below W10.heap.size W10 y3) := hy2.out.trans (hb9.mono hy2.out.size); clear hb9)
            try (go_wp2_with fail)
            refine hK.out _ _ (hk9.out _ hy3.out) (fun hHeld => ?_)
            clear hK K
            try simp only [Act.put, List.setIfInBounds_toArray, List.set_cons_zero, List.set_cons_succ]
            refine take_in (i := 12) (v := ?_) rfl (by kernel_rfl) (by kernel_rfl) (by kernel_rfl) (fun _ _ _ h => h) (by rfl) ?_ hHeld ?_
            rotate_left
            · intro w hSw
              (try dsimp only at hSw)
              go_simp
              try with_reducible rfl
            try simp only [Act.put, List.setIfInBounds_toArray, List.set_cons_zero, List.set_cons_succ]
            refine take_in (i := 13) (v := ?_) rfl (by kernel_rfl) (by kernel_rfl) (by kernel_rfl) (fun _ _ _ h => h) (by rfl) ?_ hHeld ?_
            rotate_left
            · intro w hSw
              (try dsimp only at hSw)
              go_simp
              try with_reducible rfl
            try simp only [Act.put, List.setIfInBounds_toArray, List.set_cons_zero, List.set_cons_succ]
            refine take_in (i := 14) (v := ?_) rfl (by kernel_rfl) (by kernel_rfl) (by kernel_rfl) (fun _ _ _ h => h) (by rfl) ?_ hHeld ?_
            rotate_left
            · intro w hSw
              (try dsimp only at hSw)
              go_simp
              try with_reducible rfl
            try simp only [Act.put, List.setIfInBounds_toArray, List.set_cons_zero, List.set_cons_succ]
            refine take_in (i := 16) (v := ?_) rfl (by kernel_rfl) (by kernel_rfl) (by kernel_rfl) (fun _ _ _ h => h) (by rfl) ?_ hHeld ?_
            rotate_left
            · intro w hSw
              (try dsimp only at hSw)
              go_simp
              try with_reducible rfl
            try simp only [Act.put, List.setIfInBounds_toArray, List.set_cons_zero, List.set_cons_succ]
            refine call_in (i := 15) rfl (by kernel_rfl) (fun K hK => ?_)
            clear hHeld
            go_simp
            (go_at_call 19; refine (tnodes_is (apps t ts) _ _ (HVA.out.below hy3.out) HKA.out.1 acc HMN.out.1).mono ?_; rintro e y4 ⟨rfl, hb9⟩; have hy4 : Hid (Below W10.heap.size W10 y4) := hy3.out.trans (hb9.mono hy3.out.size); clear hb9)
            try (go_wp2_with fail)
            refine hK.out _ _ (hk9.out _ hy4.out) (fun hHeld => ?_)
            clear hK K
            try simp only [Act.put, List.setIfInBounds_toArray, List.set_cons_zero, List.set_cons_succ]
            refine take_in (i := 17) (v := ?_) rfl (by kernel_rfl) (by kernel_rfl) (by kernel_rfl) (fun _ _ _ h => h) (by rfl) ?_ hHeld ?_
            rotate_left
            · intro w hSw
              (try dsimp only at hSw)
              go_simp
              try with_reducible rfl
            try simp only [Act.put, List.setIfInBounds_toArray, List.set_cons_zero, List.set_cons_succ]
            refine take_in (i := 18) (v := ?_) rfl (by kernel_rfl) (by kernel_rfl) (by kernel_rfl) (fun _ _ _ h => h) (by rfl) ?_ hHeld ?_
            rotate_left
            · intro w hSw
              (try dsimp only at hSw)
              go_simp
              try with_reducible rfl
            try simp only [Act.put, List.setIfInBounds_toArray, List.set_cons_zero, List.set_cons_succ]
            refine take_in (i := 19) (v := ?_) rfl (by kernel_rfl) (by kernel_rfl) (by kernel_rfl) (fun _ _ _ h => h) (by rfl) ?_ hHeld ?_
            rotate_left
            · intro w hSw
              (try dsimp only at hSw)
              go_simp
              try with_reducible rfl
            try simp only [Act.put, List.setIfInBounds_toArray, List.set_cons_zero, List.set_cons_succ]
            refine take_in (i := 20) (v := ?_) rfl (by kernel_rfl) (by kernel_rfl) (by kernel_rfl) (fun _ _ _ h => h) (by rfl) ?_ hHeld ?_
            rotate_left
            · intro w hSw
              (try dsimp only at hSw)
              go_simp
              try with_reducible rfl
            try simp only [Act.put, List.setIfInBounds_toArray, List.set_cons_zero, List.set_cons_succ]
            refine take_in (i := 22) (v := ?_) rfl (by kernel_rfl) (by kernel_rfl) (by kernel_rfl) (fun _ _ _ h => h) (by rfl) ?_ hHeld ?_
            rotate_left
            · intro w hSw
              (try dsimp only at hSw)
              go_simp
              try with_reducible rfl
            try simp only [Act.put, List.setIfInBounds_toArray, List.set_cons_zero, List.set_cons_succ]
            refine call_in (i := 21) rfl (by kernel_rfl) (fun K hK => ?_)
            clear hHeld
            go_simp
            (go_at_call 19; refine (tnodes_is (over 5 t ts) _ _ (HVL.out.below hy4.out) HKA.out.2.1 acc HMN.out.2.1).mono ?_; rintro e y5 ⟨rfl, hb9⟩; have hy5 : Hid (Below W10.heap.size W10 y5) := hy4.out.trans (hb9.mono hy4.out.size); clear hb9)
            try (go_wp2_with fail)
            refine hK.out _ _ (hk9.out _ hy5.out) (fun hHeld => ?_)
            clear hK K
            try simp only [Act.put, List.setIfInBounds_toArray, List.set_cons_zero, List.set_cons_succ]
            refine take_in (i := 23) (v := ?_) rfl (by kernel_rfl) (by kernel_rfl) (by kernel_rfl) (fun _ _ _ h => h) (by rfl) ?_ hHeld ?_
            rotate_left
            · intro w hSw
              (try dsimp only at hSw)
              go_simp
              try with_reducible rfl
            try simp only [Act.put, List.setIfInBounds_toArray, List.set_cons_zero, List.set_cons_succ]
            refine take_in (i := 24) (v := ?_) rfl (by kernel_rfl) (by kernel_rfl) (by kernel_rfl) (fun _ _ _ h => h) (by rfl) ?_ hHeld ?_
            rotate_left
            · intro w hSw
              (try dsimp only at hSw)
              go_simp
              try with_reducible rfl
            try simp only [Act.put, List.setIfInBounds_toArray, List.set_cons_zero, List.set_cons_succ]
            refine take_in (i := 25) (v := ?_) rfl (by kernel_rfl) (by kernel_rfl) (by kernel_rfl) (fun _ _ _ h => h) (by rfl) ?_ hHeld ?_
            rotate_left
            · intro w hSw
              (try dsimp only at hSw)
              go_simp
              try with_reducible rfl
            try simp only [Act.put, List.setIfInBounds_toArray, List.set_cons_zero, List.set_cons_succ]
            refine take_in (i := 26) (v := ?_) rfl (by kernel_rfl) (by kernel_rfl) (by kernel_rfl) (fun _ _ _ h => h) (by rfl) ?_ hHeld ?_
            rotate_left
            · intro w hSw
              (try dsimp only at hSw)
              go_simp
              try with_reducible rfl
            try simp only [Act.put, List.setIfInBounds_toArray, List.set_cons_zero, List.set_cons_succ]
            refine take_in (i := 28) (v := ?_) rfl (by kernel_rfl) (by kernel_rfl) (by kernel_rfl) (fun _ _ _ h => h) (by rfl) ?_ hHeld ?_
            rotate_left
            · intro w hSw
              (try dsimp only at hSw)
              go_simp
              try with_reducible rfl
            try simp only [Act.put, List.setIfInBounds_toArray, List.set_cons_zero, List.set_cons_succ]
            refine call_in (i := 27) rfl (by kernel_rfl) (fun K hK => ?_)
            clear hHeld
            go_simp
            (go_at_call 19; refine (tnodes_is (over 6 t ts) _ _ (HVP.out.below hy5.out) HKA.out.2.2 acc HMN.out.2.2).mono ?_; rintro e y6 ⟨rfl, hb9⟩; have hy6 : Hid (Below W10.heap.size W10 y6) := hy5.out.trans (hb9.mono hy5.out.size); clear hb9)
            try (go_wp2_with fail)
            refine hK.out _ _ (hk9.out _ hy6.out) (fun hHeld => ?_)
            clear hK K
            try simp only [Act.put, List.setIfInBounds_toArray, List.set_cons_zero, List.set_cons_succ]
            refine take_in (i := 29) (v := ?_) rfl (by kernel_rfl) (by kernel_rfl) (by kernel_rfl) (fun _ _ _ h => h) (by rfl) ?_ hHeld ?_
            rotate_left
            · intro w hSw
              (try dsimp only at hSw)
              go_simp
              try with_reducible rfl
            try simp only [Act.put, List.setIfInBounds_toArray, List.set_cons_zero, List.set_cons_succ]
            refine take_in (i := 30) (v := ?_) rfl (by kernel_rfl) (by kernel_rfl) (by kernel_rfl) (fun _ _ _ h => h) (by rfl) ?_ hHeld ?_
            rotate_left
            · intro w hSw
              (try dsimp only at hSw)
              go_simp
              try with_reducible rfl
            try simp only [Act.put, List.setIfInBounds_toArray, List.set_cons_zero, List.set_cons_succ]
            refine take_in (i := 31) (v := ?_) rfl (by kernel_rfl) (by kernel_rfl) (by kernel_rfl) (fun _ _ _ h => h) (by rfl) ?_ hHeld ?_
            rotate_left
            · intro w hSw
              (try dsimp only at hSw)
              go_simp
              try with_reducible rfl
            try simp only [Act.put, List.setIfInBounds_toArray, List.set_cons_zero, List.set_cons_succ]
            refine take_in (i := 32) (v := ?_) rfl (by kernel_rfl) (by kernel_rfl) (by kernel_rfl) (fun _ _ _ h => h) (by rfl) ?_ hHeld ?_
            rotate_left
            · intro w hSw
              (try dsimp only at hSw)
              go_simp
              try with_reducible rfl
            try simp only [Act.put, List.setIfInBounds_toArray, List.set_cons_zero, List.set_cons_succ]
            refine take_in (i := 33) (v := ?_) rfl (by kernel_rfl) (by kernel_rfl) (by kernel_rfl) (fun _ _ _ h => h) (by rfl) ?_ hHeld ?_
            rotate_left
            · intro w hSw
              (try dsimp only at hSw)
              go_simp
              try with_reducible rfl
            try simp only [Act.put, List.setIfInBounds_toArray, List.set_cons_zero, List.set_cons_succ]
            refine call_in (i := 34) rfl (by kernel_rfl) (fun K hK => ?_)
            clear hHeld
            go_simp
            (go_at_call 12; refine (sameTerm_is (spine t).1 _ _ _ (HVH.out.below hy6.out) (HVG.out.below hy6.out)).mono ?_; rintro e y7 ⟨rfl, hb9⟩; have hy7 : Hid (Below W10.heap.size W10 y7) := hy6.out.trans (hb9.mono hy6.out.size); clear hb9)
            try (go_wp2_with fail)
            refine hK.out _ _ (hk9.out _ hy7.out) (fun hHeld => ?_)
            clear hK K
            try simp only [Act.put, List.setIfInBounds_toArray, List.set_cons_zero, List.set_cons_succ]
            refine take_in (i := 35) (v := ?_) rfl (by kernel_rfl) (by kernel_rfl) (by kernel_rfl) (fun _ _ _ h => h) (by rfl) ?_ hHeld ?_
            rotate_left
            · intro w hSw
              (try dsimp only at hSw)
              go_simp
              try with_reducible rfl
            try simp only [Act.put, List.setIfInBounds_toArray, List.set_cons_zero, List.set_cons_succ]
            refine take_in (i := 36) (v := ?_) rfl (by kernel_rfl) (by kernel_rfl) (by kernel_rfl) (fun _ _ _ h => h) (by rfl) ?_ hHeld ?_
            rotate_left
            · intro w hSw
              (try dsimp only at hSw)
              go_simp
              try with_reducible rfl
            try simp only [Act.put, List.setIfInBounds_toArray, List.set_cons_zero, List.set_cons_succ]
            refine take_in (i := 37) (v := ?_) rfl (by kernel_rfl) (by kernel_rfl) (by kernel_rfl) (fun _ _ _ h => h) (by rfl) ?_ hHeld ?_
            rotate_left
            · intro w hSw
              (try dsimp only at hSw)
              go_simp
              try with_reducible rfl
            try simp only [Act.put, List.setIfInBounds_toArray, List.set_cons_zero, List.set_cons_succ]
            refine take_in (i := 38) (v := ?_) rfl (by kernel_rfl) (by kernel_rfl) (by kernel_rfl) (fun _ _ _ h => h) (by rfl) ?_ hHeld ?_
            rotate_left
            · intro w hSw
              (try dsimp only at hSw)
              go_simp
              try with_reducible rfl
            try simp only [Act.put, List.setIfInBounds_toArray, List.set_cons_zero, List.set_cons_succ]
            refine take_in (i := 39) (v := ?_) rfl (by kernel_rfl) (by kernel_rfl) (by kernel_rfl) (fun _ _ _ h => h) (by rfl) ?_ hHeld ?_
            rotate_left
            · intro w hSw
              (try dsimp only at hSw)
              go_simp
              try with_reducible rfl
            try simp only [Act.put, List.setIfInBounds_toArray, List.set_cons_zero, List.set_cons_succ]
            refine take_in (i := 40) (v := ?_) rfl (by kernel_rfl) (by kernel_rfl) (by kernel_rfl) (fun _ _ _ h => h) (by rfl) ?_ hHeld ?_
            rotate_left
            · intro w hSw
              (try dsimp only at hSw)
              go_simp
              try with_reducible rfl
            try simp only [Act.put, List.setIfInBounds_toArray, List.set_cons_zero, List.set_cons_succ]
            refine take_in (i := 41) (v := ?_) rfl (by kernel_rfl) (by kernel_rfl) (by kernel_rfl) (fun _ _ _ h => h) (by rfl) ?_ hHeld ?_
            rotate_left
            · intro w hSw
              (try dsimp only at hSw)
              go_simp
              try with_reducible rfl
            try simp only [Act.put, List.setIfInBounds_toArray, List.set_cons_zero, List.set_cons_succ]
            refine take_in (i := 42) (v := ?_) rfl (by kernel_rfl) (by kernel_rfl) (by kernel_rfl) (fun _ _ _ h => h) (by rfl) ?_ hHeld ?_
            rotate_left
            · intro w hSw
              (try dsimp only at hSw)
              go_simp
              try with_reducible rfl
            try simp only [Act.put, List.setIfInBounds_toArray, List.set_cons_zero, List.set_cons_succ]
            refine take_in (i := 43) (v := ?_) rfl (by kernel_rfl) (by kernel_rfl) (by kernel_rfl) (fun _ _ _ h => h) (by rfl) ?_ hHeld ?_
            rotate_left
            · intro w hSw
              (try dsimp only at hSw)
              go_simp
              try with_reducible rfl
            try simp only [Act.put, List.setIfInBounds_toArray, List.set_cons_zero, List.set_cons_succ]
            refine take_in (i := 44) (v := ?_) rfl (by kernel_rfl) (by kernel_rfl) (by kernel_rfl) (fun _ _ _ h => h) (by rfl) ?_ hHeld ?_
            rotate_left
            · intro w hSw
              (try dsimp only at hSw)
              go_simp
              try with_reducible rfl
            try simp only [Act.put, List.setIfInBounds_toArray, List.set_cons_zero, List.set_cons_succ]
            refine take_in (i := 45) (v := ?_) rfl (by kernel_rfl) (by kernel_rfl) (by kernel_rfl) (fun _ _ _ h => h) (by rfl) ?_ hHeld ?_
            rotate_left
            · intro w hSw
              (try dsimp only at hSw)
              go_simp
              try with_reducible rfl
            try simp only [Act.put, List.setIfInBounds_toArray, List.set_cons_zero, List.set_cons_succ]
            refine take_in (i := 46) (v := ?_) rfl (by kernel_rfl) (by kernel_rfl) (by kernel_rfl) (fun _ _ _ h => h) (by rfl) ?_ hHeld ?_
            rotate_left
            · intro w hSw
              (try dsimp only at hSw)
              go_simp
              try with_reducible rfl
            try simp only [Act.put, List.setIfInBounds_toArray, List.set_cons_zero, List.set_cons_succ]
            refine take_in (i := 47) (v := ?_) rfl (by kernel_rfl) (by kernel_rfl) (by kernel_rfl) (fun _ _ _ h => h) (by rfl) ?_ hHeld ?_
            rotate_left
            · intro w hSw
              (try dsimp only at hSw)
              go_simp
              try with_reducible rfl
            try simp only [Act.put, List.setIfInBounds_toArray, List.set_cons_zero, List.set_cons_succ]
            refine take_in (i := 48) (v := ?_) rfl (by kernel_rfl) (by kernel_rfl) (by kernel_rfl) (fun _ _ _ h => h) (by rfl) ?_ hHeld ?_
            rotate_left
            · intro w hSw
              (try dsimp only at hSw)
              go_simp
              try with_reducible rfl
            try simp only [Act.put, List.setIfInBounds_toArray, List.set_cons_zero, List.set_cons_succ]
            refine call_in (i := 49) rfl (by kernel_rfl) (fun K hK => ?_)
            clear hHeld
            go_simp
            (go_at_call 21; refine (copyTerm_is (apps t ts) _ _ (HVA.out.below hy7.out) HKA.out.1 (right_lvOk HMD.out.ra)).mono ?_; rintro e y8 ⟨l9, s9, rfl, ht, hb9⟩; have hy8 : Hid (Below W10.heap.size W10 y8) := hy7.out.trans (hb9.mono hy7.out.size); have HCP := Lib.hid (tmP_weak (Q := fun _ => True) (fun _ _ => trivial) ht); clear ht hb9)
            try (go_wp2_with fail)
            refine hK.out _ _ (hk9.out _ hy8.out) (fun hHeld => ?_)
            clear hK K
            try simp only [Act.put, List.setIfInBounds_toArray, List.set_cons_zero, List.set_cons_succ]
            refine call_in (i := 50) rfl (by kernel_rfl) (fun K hK => ?_)
            clear hHeld
            go_simp
            (go_at_call 20; refine (tsame_is (apps t ts) _ _ _ (HVA.out.below hy8.out) ⟨_, _, rfl, HCP.out⟩ HKA.out.1).mono ?_; rintro e y9 ⟨rfl, hb9⟩; have hy9 : Hid (Below W10.heap.size W10 y9) := hy8.out.trans (hb9.mono hy8.out.size); clear hb9)
            try (go_wp2_with fail)
            refine hK.out _ _ (hk9.out _ hy9.out) (fun hHeld => ?_)
            clear hK K
            try simp only [Act.put, List.setIfInBounds_toArray, List.set_cons_zero, List.set_cons_succ]
            refine take_in (i := 51) (v := ?_) rfl (by kernel_rfl) (by kernel_rfl) (by kernel_rfl) (fun _ _ _ h => h) (by rfl) ?_ hHeld ?_
            rotate_left
            · intro w hSw
              (try dsimp only at hSw)
              go_simp
              try with_reducible rfl
            try simp only [Act.put, List.setIfInBounds_toArray, List.set_cons_zero, List.set_cons_succ]
            refine take_in (i := 52) (v := ?_) rfl (by kernel_rfl) (by kernel_rfl) (by kernel_rfl) (fun _ _ _ h => h) (by rfl) ?_ hHeld ?_
            rotate_left
            · intro w hSw
              (try dsimp only at hSw)
              go_simp
              try with_reducible rfl
            try simp only [Act.put, List.setIfInBounds_toArray, List.set_cons_zero, List.set_cons_succ]
            refine wpAnyH_done (by kernel_rfl) ?_ _
            go_wp2_with fail
            go_ret
            exact ⟨rfl, HB10.out.trans (hy9.out.mono HB10.out.size)⟩
end Trm
end Go.Proofs.YtbkdecgfiiajnaaGreatDoor
