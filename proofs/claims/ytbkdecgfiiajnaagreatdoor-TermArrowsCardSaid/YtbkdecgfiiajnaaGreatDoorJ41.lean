import Derived.Test.YtbkdecgfiiajnaaGreatDoorJ40
import Derived.Test.YtbkdecgfiiajnaaGreatDoorJ32
import Derived.Test.YtbkdecgfiiajnaaGreatDoorJ23
/-
  The contract of the reference's Arrow: it answers what the program's own Arrow answers.
  Conditions: the terms lie in memory as told by 'TmV' and 'TsP'; they have at most 100000 nodes each, their names at most 2^47 bytes; at most 1000 of them.
-/
namespace Go.Proofs.YtbkdecgfiiajnaaGreatDoor
open Go.RowKit
open Lvl
namespace Trm
theorem arrow_drop (t : Tm) (fs : List Tm) (q : Nat) (h : q < fs.length) : arrow t (fs.drop q) q = .mk 6 0 ⟨#[]⟩ [] [liT q fs[q] 0, arrow t (fs.drop (q + 1)) (q + 1)] := by
  rw [List.drop_eq_getElem_cons h, arrow]
theorem arrR_is {RN : ByteArray → Bool} {t : Tm} {fs : List Tm} (h : arrB RN t fs = true) : arrR RN t fs = arrow t fs 0 := by
  unfold arrR
  rw [if_pos h]
  have h1 := h
  unfold arrB at h1
  rw [Bool.and_eq_true] at h1
  have hall := List.all_eq_true.1 h1.2
  have := over_arrow RN (rightB 4) _ t (rightT_ok (hall t (by simp))).2.2 fs 0 (fun a ha => ⟨_, (rightT_ok (hall a (by simp [ha]))).2.2⟩)
  rwa [Nat.zero_add] at this
theorem sumM_ge : ∀ ts : List Tm, sumM ts ≤ tnodesL ts + ts.length
  | [] => by rw [sumM]; omega
  | a :: ts => by
    rw [sumM, tnodesL, List.length_cons]
    have := sumM_ge ts
    omega
theorem sumM_pre (ts : List Tm) (j : Nat) : sumM (ts.take j) + (ts.length - (ts.take j).length) ≤ tnodesL ts + ts.length := by
  have h1 := sumM_ge (ts.take j)
  have h2 := tnodesL_le ts j
  have h3 : (ts.take j).length ≤ ts.length := by rw [List.length_take]; omega
  omega
theorem nodes_snoc (fs : List Tm) (t : Tm) : tnodesL (fs ++ [t]) = tnodesL fs + tnodes t := by
  rw [tnodesL_append, tnodesL, tnodesL]; omega
theorem arrB_eq (RN : ByteArray → Bool) (t : Tm) (fs : List Tm) : arrB RN t fs = (decide (fs.length + tnodesL fs + tnodes t ≤ 2000) && (allR RN 1125899906842624 fs && rightT RN 4 t 1125899906842624)) := by
  unfold arrB allR
  rw [nodes_snoc, List.all_append, Nat.add_assoc]
  simp
theorem allR_no {RN : ByteArray → Bool} {kk : Int} {ts : List Tm} {j : Nat} (h : allR RN kk (ts.take j) = false) : allR RN kk ts = false := by
  unfold allR at h ⊢
  have := List.all_append (xs := ts.take j) (ys := ts.drop j) (f := fun a => rightT RN 4 a kk)
  rw [List.take_append_drop] at this
  rw [this, h, Bool.false_and]

set_option maxRecDepth 100000 in
set_option maxHeartbeats 3000000 in
theorem refArrow_is (t : Tm) (v : Value) (fs : List Tm) (A : Option Addr) (len cap : Nat) (w : World) (hv : TmV w t v) (hm : tnodes t ≤ 100000) (hnt : nmOk t) (hlen : fs.length = len) (hlc : len ≤ cap) (h1000 : len ≤ 1000) (hfs : TsP w (fun _ => True) A 0 fs) (hmf : ∀ a, a ∈ fs → tnodes a ≤ 100000) (hnf : nmOkL fs) :
    Calls Tryz.prog 11 #[v, .slice A len cap] w (ArrRet w Nm.rightB t fs) := by
  obtain ⟨i0, hi0, hz0, hz1, hz2⟩ := info_parts infoTm
  have HNK := Lib.hid hnt
  have HLEN := Lib.hid hlen
  have HFS := Lib.hid hfs
  have HMF := Lib.hid hmf
  have HNF := Lib.hid hnf
  clear hnt hlen hfs hmf hnf
  obtain ⟨R0, hR0⟩ : ∃ R, min (tnodes t) (2000 + 1) = R := ⟨_, rfl⟩
  obtain ⟨b0, hb0⟩ : ∃ b, rightT Nm.rightB 4 t 1125899906842624 = b := ⟨_, rfl⟩
  have HRR := Lib.hid hR0
  have HBB := Lib.hid hb0
  have hr0 : R0 ≤ 2001 := by omega
  clear hR0 hb0
  obtain ⟨l, s, rfl, ht⟩ := hv
  obtain ⟨⟨la, ll, lc, rfl⟩, sa, sl, sc, rfl⟩ := tmP_slices ht
  have HTT := Lib.hid ht
  obtain ⟨k, hk⟩ : ∃ k, tkOf t = k := ⟨_, rfl⟩
  obtain ⟨n, hn⟩ : ∃ n, tnOf t = n := ⟨_, rfl⟩
  obtain ⟨m, hmm⟩ : ∃ m, tmOf t = m := ⟨_, rfl⟩
  dsimp only [tv]
  rw [hk, hn, hmm]
  have HK := Lib.hid hk
  have HNN := Lib.hid hn
  have HMM := Lib.hid hmm
  have HM := Lib.hid hm
  clear hk hn hmm ht hm
  go_enter Tryz.func11, Tryz.ntmps11
  go_wp2_with fail
  have z1 : (w.alloc (.cells #[.int .i64 k, .int .i64 n, .string m, .slice la ll lc, .slice sa sl sc] 25)).heap.size = w.heap.size + 1 := by simp
  have z2 : ((w.alloc (.cells #[.int .i64 k, .int .i64 n, .string m, .slice la ll lc, .slice sa sl sc] 25)).alloc (.cells #[.int .i64 0, .int .i64 0, .string ⟨#[]⟩, .slice none 0 0, .slice none 0 0] 25)).heap.size = w.heap.size + 1 + 1 := by simp
  have r0 : (w.alloc (.cells #[.int .i64 k, .int .i64 n, .string m, .slice la ll lc, .slice sa sl sc] 25)).heap[w.heap.size]? = some (Obj.cells #[.int .i64 k, .int .i64 n, .string m, .slice la ll lc, .slice sa sl sc] 25 (0, 0)) := by
    have := heap_alloc_new w (.cells #[.int .i64 k, .int .i64 n, .string m, .slice la ll lc, .slice sa sl sc] 25)
    exact this
  have r1 : ((w.alloc (.cells #[.int .i64 k, .int .i64 n, .string m, .slice la ll lc, .slice sa sl sc] 25)).alloc (.cells #[.int .i64 0, .int .i64 0, .string ⟨#[]⟩, .slice none 0 0, .slice none 0 0] 25)).heap[w.heap.size + 1]? = some (Obj.cells #[.int .i64 0, .int .i64 0, .string ⟨#[]⟩, .slice none 0 0, .slice none 0 0] 25 (0, 0)) := by
    have := heap_alloc_new (w.alloc (.cells #[.int .i64 k, .int .i64 n, .string m, .slice la ll lc, .slice sa sl sc] 25)) (.cells #[.int .i64 0, .int .i64 0, .string ⟨#[]⟩, .slice none 0 0, .slice none 0 0] 25)
    rwa [z1] at this
  have HB := Lib.hid ((below_lit w (.cells #[.int .i64 k, .int .i64 n, .string m, .slice la ll lc, .slice sa sl sc] 25)).trans ((below_lit (w.alloc (.cells #[.int .i64 k, .int .i64 n, .string m, .slice la ll lc, .slice sa sl sc] 25)) (.cells #[.int .i64 0, .int .i64 0, .string ⟨#[]⟩, .slice none 0 0, .slice none 0 0] 25)).mono (below_lit w (.cells #[.int .i64 k, .int .i64 n, .string m, .slice la ll lc, .slice sa sl sc] 25)).size))
  have HR0 := Lib.hid ((heap_alloc_old (w.alloc (.cells #[.int .i64 k, .int .i64 n, .string m, .slice la ll lc, .slice sa sl sc] 25)) (.cells #[.int .i64 0, .int .i64 0, .string ⟨#[]⟩, .slice none 0 0, .slice none 0 0] 25) (by rw [z1]; omega)).trans (r0))
  have HR1 := Lib.hid (r1)
  clear r0 r1
  generalize ((w.alloc (.cells #[.int .i64 k, .int .i64 n, .string m, .slice la ll lc, .slice sa sl sc] 25)).alloc (.cells #[.int .i64 0, .int .i64 0, .string ⟨#[]⟩, .slice none 0 0, .slice none 0 0] 25)) = W at *
  have HZ := Lib.hid z2
  clear z1 z2
  have HT : Hid (TmV W t (.agg #[.int .i64 k, .int .i64 n, .string m, .slice la ll lc, .slice sa sl sc])) := by
    have : TmV W t (.agg #[.int .i64 k, .int .i64 n, .string m, .slice la ll lc, .slice sa sl sc]) := ⟨_, _, by rw [← HK.out, ← HNN.out, ← HMM.out], tmP_below HB.out HTT.out⟩
    exact this
  have hz := HZ.out
  have hk : Hid (∀ W', Below W.heap.size W W' → W'.cell? ⟨w.heap.size, 0, none⟩ = some (.int .i64 k) ∧ W'.cell? ⟨w.heap.size, 1, none⟩ = some (.int .i64 n) ∧ W'.cell? ⟨w.heap.size, 2, none⟩ = some (.string m) ∧ W'.cell? ⟨w.heap.size, 3, none⟩ = some (.slice la ll lc) ∧ W'.cell? ⟨w.heap.size, 4, none⟩ = some (.slice sa sl sc)) := fun W' h => five_cells ((h.block w.heap.size (by omega)).trans HR0.out)
  clear HR0 HTT
  refine (refNodes_is t _ 2000 W HT.out (by omega) R0 HRR.out).mono ?_
  rintro e v1 ⟨rfl, hb⟩
  have HC1 := Lib.hid hb
  clear hb
  obtain ⟨a0, a1, a2, a3, a4⟩ := hk.out v1 HC1.out
  go_wp2_with fail
  refine (refAny_is t _ 4 v1 (HT.out.below HC1.out) HM.out HNK.out (by decide) (by decide) b0 HBB.out).mono ?_
  rintro e v2 ⟨rfl, hb⟩
  have HC2 := Lib.hid (HC1.out.trans (hb.mono HC1.out.size))
  clear hb a0 a1 a2 a3 a4
  go_wp2_with fail
  go_loopw [6, 7, 8] (fun c f i wr => ∃ (j acc : Nat) (fb : Bool), j ≤ len ∧ i = .int .i64 j ∧ c = .int .i64 acc ∧ f = .bool fb ∧ Hid (R0 + len + sumM (fs.take j) = acc + j) ∧ Hid ((b0 && allR Nm.rightB 1125899906842624 (fs.take j)) = fb) ∧ acc ≤ 3001 + 2001 * j ∧ Hid (Below W.heap.size W wr)) (fun _ _ i _ => len - (intOf i).toNat)
  case atStart =>
    have h0 : R0 + len + sumM (fs.take 0) = (R0 + len) + 0 := by rw [List.take_zero, sumM]
    have h1 : (b0 && allR Nm.rightB 1125899906842624 (fs.take 0)) = b0 := by rw [List.take_zero]; unfold allR; simp
    exact ⟨0, R0 + len, b0, Nat.zero_le _, rfl, by go_num, rfl, h0, h1, by omega, HC2.out⟩
  case round =>
    obtain ⟨j, acc, fb, hj, rfl, rfl, rfl, hac, har, hab, hgr⟩ := hrel
    have hsr := hgr.out.size
    by_cases hlt : j < len
    · have hx1 : j < fs.length := by rw [HLEN.out]; exact hlt
      have hln : decide ((j : Int) < (len : Int)) = true := by simp; omega
      by_cases hmo : acc ≤ 2000
      · have hd : decide ((acc : Int) ≤ 2000) = true := by simp; omega
        obtain ⟨bk, o, l1, s1, eA, hbs, _, hc0, hc1, hc2, hc3, hc4, htm⟩ := tsP_get HFS.out j hx1
        subst eA
        obtain ⟨⟨xa, xl, xc, rfl⟩, ya, yl, yc, rfl⟩ := tmP_slices htm
        have HE0 := Lib.hid (show TmV w fs[j] (tv fs[j] (.slice xa xl xc) (.slice ya yl yc)) from ⟨_, _, rfl, htm⟩)
        dsimp only [tv] at HE0
        have HEN := Lib.hid (nmOkL_mem HNF.out (List.getElem_mem hx1))
        have HEM := Lib.hid (HMF.out _ (List.getElem_mem hx1))
        obtain ⟨q, hq⟩ : ∃ q, min (tnodes fs[j]) (2000 + 1) = q := ⟨_, rfl⟩
        obtain ⟨be, hbe⟩ : ∃ b, rightT Nm.rightB 4 fs[j] 1125899906842624 = b := ⟨_, rfl⟩
        have HQ := Lib.hid hq
        have HBE := Lib.hid hbe
        have hq2 : q ≤ 2001 := by omega
        have HAC : Hid (R0 + len + sumM (fs.take (j + 1)) = acc + q + (j + 1)) := by
          have : R0 + len + sumM (fs.take (j + 1)) = acc + q + (j + 1) := by
            have h1 := hac.out
            rw [sumM_take hx1, hq]
            omega
          exact this
        have HAT := Lib.hid (allR_take (RN := Nm.rightB) (kk := 1125899906842624) hx1)
        generalize hka : tkOf fs[j] = ka at *
        generalize hna : tnOf fs[j] = na at *
        generalize hma : tmOf fs[j] = ma at *
        have HE : Hid (TmV w fs[j] (.agg #[.int .i64 ka, .int .i64 na, .string ma, .slice xa xl xc, .slice ya yl yc])) := HE0.out
        have hke : Hid (∀ W', Below w.heap.size w W' → W'.cell? ⟨bk, o + j * 5, none⟩ = some (.int .i64 ka) ∧ W'.cell? ⟨bk, o + j * 5 + 1, none⟩ = some (.int .i64 na) ∧ W'.cell? ⟨bk, o + j * 5 + 2, none⟩ = some (.string ma) ∧ W'.cell? ⟨bk, o + j * 5 + 3, none⟩ = some (.slice xa xl xc) ∧ W'.cell? ⟨bk, o + j * 5 + 4, none⟩ = some (.slice ya yl yc)) := fun W' h => ⟨(h.cell (p := ⟨bk, _, none⟩) hbs).trans hc0, (h.cell (p := ⟨bk, _, none⟩) hbs).trans hc1, (h.cell (p := ⟨bk, _, none⟩) hbs).trans hc2, (h.cell (p := ⟨bk, _, none⟩) hbs).trans hc3, (h.cell (p := ⟨bk, _, none⟩) hbs).trans hc4⟩
        generalize fs[j] = tj at *
        have q1 : (0 : Int) ≤ (j : Int) := by omega
        have q2 : (j : Int) < (len : Int) := by omega
        have HBr := Lib.hid (HB.out.trans (hgr.out.mono HB.out.size))
        obtain ⟨e0, e1, e2, e3, e4⟩ := hke.out wr HBr.out
        clear hq hbe hka hna hma htm hc0 hc1 hc2 hc3 hc4 HE0
        go_wp2_with fail
        refine (refNodes_is tj _ 2000 _ (HE.out.below HBr.out) (by omega) q HQ.out).mono ?_
        rintro e u1 ⟨rfl, hb⟩
        have HU1 := Lib.hid (hgr.out.trans (hb.mono hgr.out.size))
        have HBu := Lib.hid (HB.out.trans (HU1.out.mono HB.out.size))
        clear hb e0 e1 e2 e3 e4
        obtain ⟨e0, e1, e2, e3, e4⟩ := hke.out u1 HBu.out
        cases fb with
        | false =>
          have HAR : Hid ((b0 && allR Nm.rightB 1125899906842624 (fs.take (j + 1))) = false) := by
            have : (b0 && allR Nm.rightB 1125899906842624 (fs.take (j + 1))) = false := by
              rw [HAT.out, ← Bool.and_assoc, har.out, Bool.false_and]
            exact this
          go_wp2_with fail
          go_roundw
          case rel => exact ⟨j + 1, acc + q, false, by omega, by go_num, by go_num, rfl, HAC.out, HAR.out, by omega, HU1.out⟩
          case measure => simp [intOf]; omega
        | true =>
          have HAR : Hid ((b0 && allR Nm.rightB 1125899906842624 (fs.take (j + 1))) = be) := by
            have : (b0 && allR Nm.rightB 1125899906842624 (fs.take (j + 1))) = be := by
              rw [HAT.out, ← Bool.and_assoc, har.out, Bool.true_and]
              exact HBE.out
            exact this
          go_wp2_with fail
          refine (refAny_is tj _ 4 u1 (HE.out.below HBu.out) HEM.out HEN.out (by decide) (by decide) be HBE.out).mono ?_
          rintro e u2 ⟨rfl, hb⟩
          have HU2 := Lib.hid (HU1.out.trans (hb.mono HU1.out.size))
          clear hb e0 e1 e2 e3 e4
          go_wp2_with fail
          go_roundw
          case rel => exact ⟨j + 1, acc + q, be, by omega, by go_num, by go_num, rfl, HAC.out, HAR.out, by omega, HU2.out⟩
          case measure => simp [intOf]; omega
      · have hd : decide ((acc : Int) ≤ 2000) = false := by simp; omega
        have hgt : decide ((2000 : Int) < (acc : Int)) = true := by simp; omega
        have HF : Hid (arrB Nm.rightB t fs = false) := by
          have : arrB Nm.rightB t fs = false := by
            rw [arrB_eq, decide_eq_false, Bool.false_and]
            have h1 := hac.out
            have h2 := sumM_pre fs j
            have h3 := HRR.out
            have h4 := HLEN.out
            rw [List.length_take] at h2
            omega
          exact this
        cases fb <;> (
          have hrz := (hgr.out.block (w.heap.size + 1) (by omega)).trans HR1.out
          obtain ⟨e0, e1, e2, e3, e4⟩ := five_cells hrz
          have g0 := frozen0 (p := 0) hrz
          have g1 := frozen0 (p := 1) hrz
          have g2 := frozen0 (p := 2) hrz
          have g3 := frozen0 (p := 3) hrz
          have g4 := frozen0 (p := 4) hrz
          go_wp2_with fail
          refine bodyPost_ret (results_row_tmp rfl _ _ (w.heap.size + 1) 25 _ (0, 0) _ rfl (set5_row hrz) Tryz.underlying25 rfl (by rw [hi0, Option.map_some, hz1]; rfl)) rfl ?_
          unfold ArrRet
          rw [arrR, HF.out]
          exact ⟨_, _, rfl, tmP_none _ _, set5_below (HB.out.trans (hgr.out.mono HB.out.size)) _ 0 _ _ _ _ _ (by omega)⟩
        )
    · obtain rfl : j = len := by omega
      have hln : decide ((j : Int) < (j : Int)) = false := by simp
      have htk : fs.take j = fs := List.take_of_length_le (by rw [HLEN.out]; exact Nat.le_refl _)
      rw [htk] at hac har
      cases fb with
      | false =>
        have HF : Hid (arrB Nm.rightB t fs = false) := by
          have : arrB Nm.rightB t fs = false := by
            have h1 := har.out
            rw [arrB_eq, HBB.out, Bool.and_comm (allR _ _ _), h1, Bool.and_false]
          exact this
        have hrz := (hgr.out.block (w.heap.size + 1) (by omega)).trans HR1.out
        obtain ⟨e0, e1, e2, e3, e4⟩ := five_cells hrz
        have g0 := frozen0 (p := 0) hrz
        have g1 := frozen0 (p := 1) hrz
        have g2 := frozen0 (p := 2) hrz
        have g3 := frozen0 (p := 3) hrz
        have g4 := frozen0 (p := 4) hrz
        go_wp2_with fail
        refine bodyPost_ret (results_row_tmp rfl _ _ (w.heap.size + 1) 25 _ (0, 0) _ rfl (set5_row hrz) Tryz.underlying25 rfl (by rw [hi0, Option.map_some, hz1]; rfl)) rfl ?_
        unfold ArrRet
        rw [arrR, HF.out]
        exact ⟨_, _, rfl, tmP_none _ _, set5_below (HB.out.trans (hgr.out.mono HB.out.size)) _ 0 _ _ _ _ _ (by omega)⟩
      | true =>
        by_cases hgt0 : 2000 < acc
        · have hgt : decide ((2000 : Int) < (acc : Int)) = true := by simp; omega
          have HF : Hid (arrB Nm.rightB t fs = false) := by
            have : arrB Nm.rightB t fs = false := by
              rw [arrB_eq, decide_eq_false, Bool.false_and]
              have h1 := hac.out
              have h2 := sumM_ge fs
              have h3 := HRR.out
              have h4 := HLEN.out
              omega
            exact this
          have hrz := (hgr.out.block (w.heap.size + 1) (by omega)).trans HR1.out
          obtain ⟨e0, e1, e2, e3, e4⟩ := five_cells hrz
          have g0 := frozen0 (p := 0) hrz
          have g1 := frozen0 (p := 1) hrz
          have g2 := frozen0 (p := 2) hrz
          have g3 := frozen0 (p := 3) hrz
          have g4 := frozen0 (p := 4) hrz
          go_wp2_with fail
          refine bodyPost_ret (results_row_tmp rfl _ _ (w.heap.size + 1) 25 _ (0, 0) _ rfl (set5_row hrz) Tryz.underlying25 rfl (by rw [hi0, Option.map_some, hz1]; rfl)) rfl ?_
          unfold ArrRet
          rw [arrR, HF.out]
          exact ⟨_, _, rfl, tmP_none _ _, set5_below (HB.out.trans (hgr.out.mono HB.out.size)) _ 0 _ _ _ _ _ (by omega)⟩
        · have hgt : decide ((2000 : Int) < (acc : Int)) = false := by simp; omega
          have HTR : Hid (arrB Nm.rightB t fs = true) := by
            have : arrB Nm.rightB t fs = true := by
              have h0 := har.out
              have h1 := hac.out
              have h3 := HRR.out
              have h4 := HLEN.out
              have h2 := sumM_is fs (by omega)
              rw [arrB_eq, HBB.out, Bool.and_comm (allR _ _ _), h0, decide_eq_true (by omega)]
              rfl
            exact this
          have hbt : rightT Nm.rightB 4 t 1125899906842624 = true := by
            have h0 := har.out
            rw [Bool.and_eq_true] at h0
            rw [HBB.out]; exact h0.1
          have hbf : ∀ a ∈ fs, rightT Nm.rightB 4 a 1125899906842624 = true := by
            have h0 := har.out
            rw [Bool.and_eq_true] at h0
            exact fun a ha => List.all_eq_true.1 h0.2 a ha
          have HBT := Lib.hid hbt
          have HBF := Lib.hid hbf
          have hlf := lift_up Nm.rightB (j : Int) (by omega) (by omega) (tnodes t) t (.agg #[.int .i64 k, .int .i64 n, .string m, .slice la ll lc, .slice sa sl sc]) 0 _ wr (Nat.le_refl _) HM.out (rightT_ok hbt).2.2 (by have := HM.out; omega) (by omega) (by have := HM.out; omega) (HT.out.below hgr.out)
          have HLF := Lib.hid hlf
          clear hlf hbt hbf
          obtain ⟨a0, a1, a2, a3, a4⟩ := hk.out wr hgr.out
          go_wp2_with fail
          refine HLF.out.mono ?_
          rintro e w7 ⟨l9, s9, rfl, ht9, hb7⟩
          obtain ⟨⟨fa, fl, fc, rfl⟩, ga, gl, gc, rfl⟩ := tmP_slices ht9
          obtain ⟨k7, hk7⟩ : ∃ q, tkOf (liT (j : Int) t 0) = q := ⟨_, rfl⟩
          obtain ⟨n7, hn7⟩ : ∃ q, tnOf (liT (j : Int) t 0) = q := ⟨_, rfl⟩
          obtain ⟨m7, hm7⟩ : ∃ q, tmOf (liT (j : Int) t 0) = q := ⟨_, rfl⟩
          dsimp only [tv]
          rw [hk7, hn7, hm7]
          have hs7 := hb7.size
          have hbx := below_lit w7 (.cells #[.int .i64 k7, .int .i64 n7, .string m7, .slice fa fl fc, .slice ga gl gc] 25)
          have HW7 := Lib.hid (hgr.out.trans ((hb7.trans (hbx.mono hb7.size)).mono hgr.out.size))
          have HB7 := Lib.hid (HB.out.trans (HW7.out.mono HB.out.size))
          have HR17 := Lib.hid ((HW7.out.block (w.heap.size + 1) (by omega)).trans HR1.out)
          have HRO := Lib.hid (heap_alloc_new w7 (.cells #[.int .i64 k7, .int .i64 n7, .string m7, .slice fa fl fc, .slice ga gl gc] 25))
          have HTO := Lib.hid (tmP_move (w := w7) (w' := w7.alloc (.cells #[.int .i64 k7, .int .i64 n7, .string m7, .slice fa fl fc, .slice ga gl gc] 25)) (Q := fun b => w.heap.size + 2 ≤ b ∧ b ≠ w7.heap.size) (fun b hlt hp => ⟨⟨by omega, by omega⟩, hbx.block b hlt⟩) hbx.size _ _ _ ht9)
          have hs8 : (w7.alloc (.cells #[.int .i64 k7, .int .i64 n7, .string m7, .slice fa fl fc, .slice ga gl gc] 25)).heap.size = w7.heap.size + 1 := by simp
          have HK7 := Lib.hid (And.intro hk7 (And.intro hn7 hm7))
          have hww : IntKind.i64.wrap ((j : Int) - 1) = (j : Int) - 1 := IntWalk.i64_in _ ⟨by omega, by omega⟩
          clear ht9 hb7 hbx a0 a1 a2 a3 a4 hk7 hn7 hm7
          go_wp2_with fail
          generalize w7.alloc (.cells #[.int .i64 k7, .int .i64 n7, .string m7, .slice fa fl fc, .slice ga gl gc] 25) = W7 at *
          generalize hBo : w7.heap.size = Bo at *
          generalize hLL : j = L9 at *
          generalize wr = Wr0 at *
          go_loopw [10] (fun i wr => ∃ (q : Nat) (ko no : Int) (mo : ByteArray) (oa : Option Addr) (ol oc : Nat) (pa : Option Addr) (pl pc : Nat), q ≤ L9 ∧ i = .int .i64 ((q : Int) - 1) ∧ Hid (tkOf (arrow t (fs.drop q) q) = ko ∧ tnOf (arrow t (fs.drop q) q) = no ∧ tmOf (arrow t (fs.drop q) q) = mo) ∧ Hid (wr.heap[Bo]? = some (Obj.cells #[.int .i64 ko, .int .i64 no, .string mo, .slice oa ol oc, .slice pa pl pc] 25 (0, 0))) ∧ Hid (TmP wr (fun b => w.heap.size + 2 ≤ b ∧ b ≠ Bo) (arrow t (fs.drop q) q) (.slice oa ol oc) (.slice pa pl pc)) ∧ Hid (W7.grownBy wr (some Bo))) (fun i _ => (intOf i + 1).toNat)
          case atStart =>
            have hdr : arrow t (fs.drop L9) L9 = liT (L9 : Int) t 0 := by rw [List.drop_of_length_le (by rw [HLEN.out]; exact Nat.le_refl _), arrow]
            exact ⟨L9, k7, n7, m7, fa, fl, fc, ga, gl, gc, Nat.le_refl _, rfl, by rw [hdr]; exact HK7.out, HRO.out, by rw [hdr]; exact HTO.out, grown_of _ (Below.refl _ _)⟩
          case round =>
            obtain ⟨q, ko, no, mo, oa, ol, oc, pa, pl, pc, hq, rfl, hkk, hrow, hto, hgr2⟩ := hrel
            have hsr2 := grown_size hgr2.out
            have HBr := Lib.hid (HB7.out.grown hgr2.out HB7.out.size (fun k e => by cases e; omega))
            cases q with
            | zero =>
              have hdd : decide ((0 : Int) ≤ ((0 : Nat) : Int) - 1) = false := by simp
              have hde : decide ((0 : Int) ≤ (0 : Int) - 1) = false := by simp
              have hdf : decide ((0 : Int) ≤ -1) = false := by simp
              obtain ⟨o0, o1, o2, o3, o4⟩ := five_cells hrow.out
              have hrz := (hgr2.out.block (w.heap.size + 1) (by omega) (by simp; omega)).trans HR17.out
              obtain ⟨e0, e1, e2, e3, e4⟩ := five_cells hrz
              have g0 := frozen0 (p := 0) hrz
              have g1 := frozen0 (p := 1) hrz
              have g2 := frozen0 (p := 2) hrz
              have g3 := frozen0 (p := 3) hrz
              have g4 := frozen0 (p := 4) hrz
              go_wp2_with fail
              refine bodyPost_ret (results_row_tmp rfl _ _ (w.heap.size + 1) 25 _ (0, 0) _ rfl (set5_row hrz) Tryz.underlying25 rfl (by rw [hi0, Option.map_some, hz1]; rfl)) rfl ?_
              unfold ArrRet
              have h1 := hkk.out
              have h2 := hto.out
              rw [List.drop_zero] at h1 h2
              rw [arrR_is HTR.out, HTR.out]
              exact ⟨_, _, by dsimp only [tv]; rw [h1.1, h1.2.1, h1.2.2]; rfl, tmP_move (w := wr) (fun b _ hp => ⟨by omega, set5_far' wr (w.heap.size + 1) 0 b _ _ _ _ _ (by omega)⟩) (Nat.le_of_eq (set5_sz wr (w.heap.size + 1) 0 _ _ _ _ _).symm) _ _ _ h2, set5_below HBr.out _ 0 _ _ _ _ _ (by omega)⟩
            | succ j =>
              have e9 : ((j + 1 : Nat) : Int) - 1 = (j : Int) := by omega
              rw [e9]
              have hx1 : j < fs.length := by rw [HLEN.out]; omega
              have hdd : decide ((0 : Int) ≤ (j : Int)) = true := by simp
              obtain ⟨bk, o, l1, s1, eA, hbs, _, hc0, hc1, hc2, hc3, hc4, htm⟩ := tsP_get HFS.out j hx1
              subst eA
              obtain ⟨⟨xa, xl, xc, rfl⟩, ya, yl, yc, rfl⟩ := tmP_slices htm
              have HE0 := Lib.hid (show TmV w fs[j] (tv fs[j] (.slice xa xl xc) (.slice ya yl yc)) from ⟨_, _, rfl, htm⟩)
              dsimp only [tv] at HE0
              have HEN := Lib.hid (nmOkL_mem HNF.out (List.getElem_mem hx1))
              have HEM := Lib.hid (HMF.out _ (List.getElem_mem hx1))
              have hre := (rightT_ok (HBF.out _ (List.getElem_mem hx1))).2.2
              have hcall := fun (w' : World) (hw : Below w.heap.size w w') => lift_up Nm.rightB (j : Int) (by omega) (by omega) (tnodes fs[j]) fs[j] (tv fs[j] (.slice xa xl xc) (.slice ya yl yc)) 0 _ w' (Nat.le_refl _) HEM.out hre (by have := HEM.out; omega) (by omega) (by have := HEM.out; omega) ⟨_, _, rfl, tmP_below hw htm⟩
              have HCALL := Lib.hid hcall
              dsimp only [tv] at HCALL
              have HAD := Lib.hid (arrow_drop t fs j hx1)
              obtain ⟨ku, hku⟩ : ∃ q, tkOf (liT (j : Int) fs[j] 0) = q := ⟨_, rfl⟩
              obtain ⟨nu, hnu⟩ : ∃ q, tnOf (liT (j : Int) fs[j] 0) = q := ⟨_, rfl⟩
              obtain ⟨mu, hmu⟩ : ∃ q, tmOf (liT (j : Int) fs[j] 0) = q := ⟨_, rfl⟩
              have HU := Lib.hid (And.intro hku (And.intro hnu hmu))
              generalize hka : tkOf fs[j] = ka at *
              generalize hna : tnOf fs[j] = na at *
              generalize hma : tmOf fs[j] = ma at *
              have HE : Hid (TmV w fs[j] (.agg #[.int .i64 ka, .int .i64 na, .string ma, .slice xa xl xc, .slice ya yl yc])) := HE0.out
              have hke : Hid (∀ W', Below w.heap.size w W' → W'.cell? ⟨bk, o + j * 5, none⟩ = some (.int .i64 ka) ∧ W'.cell? ⟨bk, o + j * 5 + 1, none⟩ = some (.int .i64 na) ∧ W'.cell? ⟨bk, o + j * 5 + 2, none⟩ = some (.string ma) ∧ W'.cell? ⟨bk, o + j * 5 + 3, none⟩ = some (.slice xa xl xc) ∧ W'.cell? ⟨bk, o + j * 5 + 4, none⟩ = some (.slice ya yl yc)) := fun W' h => ⟨(h.cell (p := ⟨bk, _, none⟩) hbs).trans hc0, (h.cell (p := ⟨bk, _, none⟩) hbs).trans hc1, (h.cell (p := ⟨bk, _, none⟩) hbs).trans hc2, (h.cell (p := ⟨bk, _, none⟩) hbs).trans hc3, (h.cell (p := ⟨bk, _, none⟩) hbs).trans hc4⟩
              have q1 : (0 : Int) ≤ (j : Int) := by omega
              have q2 : (j : Int) < (L9 : Int) := by omega
              have hk8 : Hid (∀ W', Below wr.heap.size wr W' → W'.cell? ⟨Bo, 0, none⟩ = some (.int .i64 ko) ∧ W'.cell? ⟨Bo, 1, none⟩ = some (.int .i64 no) ∧ W'.cell? ⟨Bo, 2, none⟩ = some (.string mo) ∧ W'.cell? ⟨Bo, 3, none⟩ = some (.slice oa ol oc) ∧ W'.cell? ⟨Bo, 4, none⟩ = some (.slice pa pl pc) ∧ W'.cell? ⟨bk, o + j * 5, none⟩ = some (.int .i64 ka) ∧ W'.cell? ⟨bk, o + j * 5 + 1, none⟩ = some (.int .i64 na) ∧ W'.cell? ⟨bk, o + j * 5 + 2, none⟩ = some (.string ma) ∧ W'.cell? ⟨bk, o + j * 5 + 3, none⟩ = some (.slice xa xl xc) ∧ W'.cell? ⟨bk, o + j * 5 + 4, none⟩ = some (.slice ya yl yc)) := fun W' h => by
                obtain ⟨o0, o1, o2, o3, o4⟩ := five_cells ((h.block Bo (by omega)).trans hrow.out)
                have he := hke.out W' (HBr.out.trans (h.mono HBr.out.size))
                exact ⟨o0, o1, o2, o3, o4, he.1, he.2.1, he.2.2.1, he.2.2.2.1, he.2.2.2.2⟩
              have hw2 : IntKind.i64.wrap ((j : Int) - 1) = (j : Int) - 1 := IntWalk.i64_in _ ⟨by omega, by omega⟩
              clear hcall hre htm hc0 hc1 hc2 hc3 hc4 hku hnu hmu hka hna hma HE0 HE
              go_wp2_with fail
              refine region_E (S := fun W' => W'.cell? ⟨Bo, 0, none⟩ = some (.int .i64 ko) ∧ W'.cell? ⟨Bo, 1, none⟩ = some (.int .i64 no) ∧ W'.cell? ⟨Bo, 2, none⟩ = some (.string mo) ∧ W'.cell? ⟨Bo, 3, none⟩ = some (.slice oa ol oc) ∧ W'.cell? ⟨Bo, 4, none⟩ = some (.slice pa pl pc) ∧ W'.cell? ⟨bk, o + j * 5, none⟩ = some (.int .i64 ka) ∧ W'.cell? ⟨bk, o + j * 5 + 1, none⟩ = some (.int .i64 na) ∧ W'.cell? ⟨bk, o + j * 5 + 2, none⟩ = some (.string ma) ∧ W'.cell? ⟨bk, o + j * 5 + 3, none⟩ = some (.slice xa xl xc) ∧ W'.cell? ⟨bk, o + j * 5 + 4, none⟩ = some (.slice ya yl yc)) 9 (by kernel_rfl) ?_
              refine (fun (hHeld : (fun W' : World => W'.cell? ⟨Bo, 0, none⟩ = some (.int .i64 ko) ∧ W'.cell? ⟨Bo, 1, none⟩ = some (.int .i64 no) ∧ W'.cell? ⟨Bo, 2, none⟩ = some (.string mo) ∧ W'.cell? ⟨Bo, 3, none⟩ = some (.slice oa ol oc) ∧ W'.cell? ⟨Bo, 4, none⟩ = some (.slice pa pl pc) ∧ W'.cell? ⟨bk, o + j * 5, none⟩ = some (.int .i64 ka) ∧ W'.cell? ⟨bk, o + j * 5 + 1, none⟩ = some (.int .i64 na) ∧ W'.cell? ⟨bk, o + j * 5 + 2, none⟩ = some (.string ma) ∧ W'.cell? ⟨bk, o + j * 5 + 3, none⟩ = some (.slice xa xl xc) ∧ W'.cell? ⟨bk, o + j * 5 + 4, none⟩ = some (.slice ya yl yc)) _) => ?_) (hk8.out _ ((Below.refl _ _).drew))
              refine take_E (i := 0) (v := ?_) 8 [7, 5, 3, 2, 0] rfl (by kernel_rfl) (by kernel_rfl) (by kernel_rfl) (by kernel_rfl) rfl (by decide) (by kernel_rfl) rfl (fun _ _ _ h => h) (by rfl) ?_ hHeld ?_
              rotate_left
              · intro w hSw
                (try dsimp only at hSw)
                go_simp
                try with_reducible rfl
              try simp only [Act.put, List.setIfInBounds_toArray, List.set_cons_zero, List.set_cons_succ]
              refine take_E (i := 1) (v := ?_) 8 [7, 5, 3, 2, 1] rfl (by kernel_rfl) (by kernel_rfl) (by kernel_rfl) (by kernel_rfl) rfl (by decide) (by kernel_rfl) rfl (fun _ _ _ h => h) (by rfl) ?_ hHeld ?_
              rotate_left
              · intro w hSw
                (try dsimp only at hSw)
                go_simp
                try with_reducible rfl
              try simp only [Act.put, List.setIfInBounds_toArray, List.set_cons_zero, List.set_cons_succ]
              refine take_E (i := 2) (v := ?_) 8 [7, 5, 3, 2] rfl (by kernel_rfl) (by kernel_rfl) (by kernel_rfl) (by kernel_rfl) rfl (by decide) (by kernel_rfl) rfl (fun _ _ _ h => h) (by rfl) ?_ hHeld ?_
              rotate_left
              · intro w hSw
                (try dsimp only at hSw)
                go_simp
                try with_reducible rfl
              try simp only [Act.put, List.setIfInBounds_toArray, List.set_cons_zero, List.set_cons_succ]
              refine take_E (i := 3) (v := ?_) 8 [7, 5, 3] rfl (by kernel_rfl) (by kernel_rfl) (by kernel_rfl) (by kernel_rfl) rfl (by decide) (by kernel_rfl) rfl (fun _ _ _ h => h) (by rfl) ?_ hHeld ?_
              rotate_left
              · intro w hSw
                (try dsimp only at hSw)
                go_simp
                try with_reducible rfl
              try simp only [Act.put, List.setIfInBounds_toArray, List.set_cons_zero, List.set_cons_succ]
              refine take_E (i := 4) (v := ?_) 8 [7, 5, 4] rfl (by kernel_rfl) (by kernel_rfl) (by kernel_rfl) (by kernel_rfl) rfl (by decide) (by kernel_rfl) rfl (fun _ _ _ h => h) (by rfl) ?_ hHeld ?_
              rotate_left
              · intro w hSw
                (try dsimp only at hSw)
                go_simp
                try with_reducible rfl
              try simp only [Act.put, List.setIfInBounds_toArray, List.set_cons_zero, List.set_cons_succ]
              refine take_E (i := 6) (v := ?_) 8 [7, 6] rfl (by kernel_rfl) (by kernel_rfl) (by kernel_rfl) (by kernel_rfl) rfl (by decide) (by kernel_rfl) rfl (fun _ _ _ h => h) (by rfl) ?_ hHeld ?_
              rotate_left
              · intro w hSw
                (try dsimp only at hSw)
                go_simp
                try with_reducible rfl
              try simp only [Act.put, List.setIfInBounds_toArray, List.set_cons_zero, List.set_cons_succ]
              refine only_E (i := 5) rfl (by kernel_rfl) (fun K hK => ?_)
              clear hHeld
              go_simp
              go_at_call 38
              refine (HCALL.out _ (HBr.out.trans ((Below.refl _ _).drew.mono HBr.out.size))).mono ?_
              rintro e w5 ⟨u9, v9, rfl, ht9, hb5⟩
              obtain ⟨⟨ua, ul, uc, rfl⟩, va, vl, vc, rfl⟩ := tmP_slices ht9
              dsimp only [tv]
              rw [HU.out.1, HU.out.2.1, HU.out.2.2]
              have HT9 := Lib.hid ht9
              have HC5 := Lib.hid ((Below.refl wr.heap.size wr).drew.trans hb5)
              clear ht9 hb5

              try (go_wp2_with fail)
              refine (fun (hHeld : (fun W' : World => W'.cell? ⟨Bo, 0, none⟩ = some (.int .i64 ko) ∧ W'.cell? ⟨Bo, 1, none⟩ = some (.int .i64 no) ∧ W'.cell? ⟨Bo, 2, none⟩ = some (.string mo) ∧ W'.cell? ⟨Bo, 3, none⟩ = some (.slice oa ol oc) ∧ W'.cell? ⟨Bo, 4, none⟩ = some (.slice pa pl pc) ∧ W'.cell? ⟨bk, o + j * 5, none⟩ = some (.int .i64 ka) ∧ W'.cell? ⟨bk, o + j * 5 + 1, none⟩ = some (.int .i64 na) ∧ W'.cell? ⟨bk, o + j * 5 + 2, none⟩ = some (.string ma) ∧ W'.cell? ⟨bk, o + j * 5 + 3, none⟩ = some (.slice xa xl xc) ∧ W'.cell? ⟨bk, o + j * 5 + 4, none⟩ = some (.slice ya yl yc)) _) => hK.out _ _ (fun _ => hHeld) ?_) (hk8.out w5 HC5.out)
              clear hK K
              try simp only [Act.put, List.setIfInBounds_toArray, List.set_cons_zero, List.set_cons_succ]
              refine only_E (i := 7) rfl (by kernel_rfl) (fun K hK => ?_)
              clear hHeld
              go_simp

              try (go_wp2_with fail)
              refine (fun (hHeld : (fun W' : World => W'.cell? ⟨Bo, 0, none⟩ = some (.int .i64 ko) ∧ W'.cell? ⟨Bo, 1, none⟩ = some (.int .i64 no) ∧ W'.cell? ⟨Bo, 2, none⟩ = some (.string mo) ∧ W'.cell? ⟨Bo, 3, none⟩ = some (.slice oa ol oc) ∧ W'.cell? ⟨Bo, 4, none⟩ = some (.slice pa pl pc) ∧ W'.cell? ⟨bk, o + j * 5, none⟩ = some (.int .i64 ka) ∧ W'.cell? ⟨bk, o + j * 5 + 1, none⟩ = some (.int .i64 na) ∧ W'.cell? ⟨bk, o + j * 5 + 2, none⟩ = some (.string ma) ∧ W'.cell? ⟨bk, o + j * 5 + 3, none⟩ = some (.slice xa xl xc) ∧ W'.cell? ⟨bk, o + j * 5 + 4, none⟩ = some (.slice ya yl yc)) _) => hK.out _ _ (fun _ => hHeld) ?_) (hk8.out _ (HC5.out.trans ((below_lit w5 (.cells #[.int .i64 ku, .int .i64 nu, .string mu, .slice ua ul uc, .slice va vl vc, .int .i64 ko, .int .i64 no, .string mo, .slice oa ol oc, .slice pa pl pc] 25)).mono HC5.out.size)))
              clear hK K
              try simp only [Act.put, List.setIfInBounds_toArray, List.set_cons_zero, List.set_cons_succ]
              refine only_E (i := 8) rfl (by kernel_rfl) (fun K hK => ?_)
              clear hHeld
              go_simp

              try (go_wp2_with fail)
              refine (fun (hHeld : (fun W' : World => W'.cell? ⟨Bo, 0, none⟩ = some (.int .i64 ko) ∧ W'.cell? ⟨Bo, 1, none⟩ = some (.int .i64 no) ∧ W'.cell? ⟨Bo, 2, none⟩ = some (.string mo) ∧ W'.cell? ⟨Bo, 3, none⟩ = some (.slice oa ol oc) ∧ W'.cell? ⟨Bo, 4, none⟩ = some (.slice pa pl pc) ∧ W'.cell? ⟨bk, o + j * 5, none⟩ = some (.int .i64 ka) ∧ W'.cell? ⟨bk, o + j * 5 + 1, none⟩ = some (.int .i64 na) ∧ W'.cell? ⟨bk, o + j * 5 + 2, none⟩ = some (.string ma) ∧ W'.cell? ⟨bk, o + j * 5 + 3, none⟩ = some (.slice xa xl xc) ∧ W'.cell? ⟨bk, o + j * 5 + 4, none⟩ = some (.slice ya yl yc)) _) => hK.out _ _ (fun _ => hHeld) ?_) (hk8.out _ (HC5.out.trans ((below_lit w5 (.cells #[.int .i64 ku, .int .i64 nu, .string mu, .slice ua ul uc, .slice va vl vc, .int .i64 ko, .int .i64 no, .string mo, .slice oa ol oc, .slice pa pl pc] 25)).mono HC5.out.size)))
              clear hK K
              try simp only [Act.put, List.setIfInBounds_toArray, List.set_cons_zero, List.set_cons_succ]
              refine only_E (i := 9) rfl (by kernel_rfl) (fun K hK => ?_)
              clear hHeld
              go_simp
              have hb6 := below_lit w5 (.cells #[.int .i64 ku, .int .i64 nu, .string mu, .slice ua ul uc, .slice va vl vc, .int .i64 ko, .int .i64 no, .string mo, .slice oa ol oc, .slice pa pl pc] 25)
              have hr6 := heap_alloc_new w5 (.cells #[.int .i64 ku, .int .i64 nu, .string mu, .slice ua ul uc, .slice va vl vc, .int .i64 ko, .int .i64 no, .string mo, .slice oa ol oc, .slice pa pl pc] 25)
              have hs6 : (w5.alloc (.cells #[.int .i64 ku, .int .i64 nu, .string mu, .slice ua ul uc, .slice va vl vc, .int .i64 ko, .int .i64 no, .string mo, .slice oa ol oc, .slice pa pl pc] 25)).heap.size = w5.heap.size + 1 := by simp
              have HC6 := Lib.hid (HC5.out.trans (hb6.mono HC5.out.size))
              have HB56 := Lib.hid hb6
              have hro6 := (HC6.out.block Bo (by omega)).trans hrow.out
              obtain ⟨p0, p1, p2, p3, p4⟩ := five_cells hro6
              have f0 := frozen0 (p := 0) hro6
              have f1 := frozen0 (p := 1) hro6
              have f2 := frozen0 (p := 2) hro6
              have f3 := frozen0 (p := 3) hro6
              have f4 := frozen0 (p := 4) hro6
              clear hb6
              go_simp
              have h56 := HB56.out.size
              have hc56 := HC5.out.size
              have HGR := Lib.hid (set5_grown (q := 0) (x0 := .int .i64 6) (x1 := .int .i64 0) (x2 := .string ⟨#[]⟩) (x3 := .slice none 0 0) (x4 := .slice (some ⟨w5.heap.size, 0, none⟩) 2 2) (grown_below hgr2.out HC6.out))
              have HROW := Lib.hid (set5_row (y0 := .int .i64 6) (y1 := .int .i64 0) (y2 := .string ⟨#[]⟩) (y3 := .slice none 0 0) (y4 := .slice (some ⟨w5.heap.size, 0, none⟩) 2 2) hro6)
              have ht0 : TmP (w5.alloc (.cells #[.int .i64 ku, .int .i64 nu, .string mu, .slice ua ul uc, .slice va vl vc, .int .i64 ko, .int .i64 no, .string mo, .slice oa ol oc, .slice pa pl pc] 25)) (fun b => w.heap.size + 2 ≤ b ∧ b ≠ Bo) (arrow t (fs.drop (j + 1)) (j + 1)) (.slice oa ol oc) (.slice pa pl pc) := tmP_below HC6.out hto.out
              have ht1 : TmP (w5.alloc (.cells #[.int .i64 ku, .int .i64 nu, .string mu, .slice ua ul uc, .slice va vl vc, .int .i64 ko, .int .i64 no, .string mo, .slice oa ol oc, .slice pa pl pc] 25)) (fun b => w.heap.size + 2 ≤ b ∧ b ≠ Bo) (liT (j : Int) fs[j] 0) (.slice ua ul uc) (.slice va vl vc) := tmP_weak (fun b (hb : wr.heap.size ≤ b) => ⟨by omega, by omega⟩) (tmP_below HB56.out HT9.out)
              rw [← hkk.out.1, ← hkk.out.2.1, ← hkk.out.2.2, ← HU.out.1, ← HU.out.2.1, ← HU.out.2.2] at hr6 ht0 ht1
              have ht2 := tmP_two hr6 ⟨by omega, by omega⟩ ht1 ht0 6 0 ⟨#[]⟩
              rw [hkk.out.1, hkk.out.2.1, hkk.out.2.2, HU.out.1, HU.out.2.1, HU.out.2.2] at ht2
              have HTN := Lib.hid (tmP_move (w := w5.alloc (.cells #[.int .i64 ku, .int .i64 nu, .string mu, .slice ua ul uc, .slice va vl vc, .int .i64 ko, .int .i64 no, .string mo, .slice oa ol oc, .slice pa pl pc] 25)) (w' := (((((w5.alloc (.cells #[.int .i64 ku, .int .i64 nu, .string mu, .slice ua ul uc, .slice va vl vc, .int .i64 ko, .int .i64 no, .string mo, .slice oa ol oc, .slice pa pl pc] 25)).setCell ⟨Bo, 0, none⟩ (.int .i64 6)).setCell ⟨Bo, 1, none⟩ (.int .i64 0)).setCell ⟨Bo, 2, none⟩ (.string ⟨#[]⟩)).setCell ⟨Bo, 3, none⟩ (.slice none 0 0)).setCell ⟨Bo, 4, none⟩ (.slice (some ⟨w5.heap.size, 0, none⟩) 2 2)) (Q := fun b => w.heap.size + 2 ≤ b ∧ b ≠ Bo) (fun b _ hp => ⟨hp, set5_far' _ Bo 0 b _ _ _ _ _ hp.2⟩) (Nat.le_of_eq (set5_sz _ Bo 0 _ _ _ _ _).symm) _ _ _ ht2)
              refine hK.out _ _ (fun h => by cases h) ?_
              clear hK K p0 p1 p2 p3 p4 f0 f1 f2 f3 f4 hro6 hr6 ht0 ht1 ht2
              try simp only [Act.put, List.setIfInBounds_toArray, List.set_cons_zero, List.set_cons_succ]
              refine done_E (by kernel_rfl) ?_ _
              generalize (((((w5.alloc (.cells #[.int .i64 ku, .int .i64 nu, .string mu, .slice ua ul uc, .slice va vl vc, .int .i64 ko, .int .i64 no, .string mo, .slice oa ol oc, .slice pa pl pc] 25)).setCell ⟨Bo, 0, none⟩ (.int .i64 6)).setCell ⟨Bo, 1, none⟩ (.int .i64 0)).setCell ⟨Bo, 2, none⟩ (.string ⟨#[]⟩)).setCell ⟨Bo, 3, none⟩ (.slice none 0 0)).setCell ⟨Bo, 4, none⟩ (.slice (some ⟨w5.heap.size, 0, none⟩) 2 2) = w9 at *
              go_wp2_with fail
              go_roundw
              case rel => exact ⟨j, 6, 0, ⟨#[]⟩, none, 0, 0, some ⟨w5.heap.size, 0, none⟩, 2, 2, by omega, rfl, by rw [HAD.out]; exact ⟨rfl, rfl, rfl⟩, HROW.out, by rw [HAD.out]; exact HTN.out, HGR.out⟩
              case measure => simp [intOf]
end Trm
end Go.Proofs.YtbkdecgfiiajnaaGreatDoor
