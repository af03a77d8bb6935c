/-
  The law TermArrows, walked: whatever comes in, it returns true, and nothing that was there turns.
  Conditions: the terms lie in memory as told by 'TmV' and 'TsP', their names take at most 2^47 bytes each; name.Right's contract; the laws' own check 'alive' returns true.
-/
import Derived.Test.YtbkdecgfiiajnaaGreatDoorJ41
import Derived.Test.YtbkdecgfiiajnaaGreatDoorJ21
import Derived.Test.YtbkdecgfiiajnaaGreatDoorJ43
import Derived.Test.YtbkdecgfiiajnaaGreatDoorJ13
import Derived.Deep.DeepCutAuto
namespace Go.Proofs.YtbkdecgfiiajnaaGreatDoor
open Go.RowKit
open Lvl
namespace Trm

/-- The greatest of the least bounds. -/
def lmx (RN : ByteArray → Bool) (t : Tm) (fs : List Tm) : Int := fs.foldl (fun m a => max m (looseT RN a)) (looseT RN t)
theorem lmx_take {RN : ByteArray → Bool} {t : Tm} {fs : List Tm} {j : Nat} (h : j < fs.length) : lmx RN t (fs.take (j + 1)) = max (lmx RN t (fs.take j)) (looseT RN fs[j]) := by
  unfold lmx
  rw [List.take_add_one, List.getElem?_eq_getElem h, List.foldl_append]
  simp
theorem arrow_ok (RN : ByteArray → Bool) (RL : Lv → Bool) (tt : Tm) (K : Int) (hto : okT RN RL tt K = true) : ∀ (fs : List Tm) (i : Nat), (∀ a ∈ fs, okT RN RL a K = true) → okT RN RL (arrow tt fs i) (K + i) = true
  | [], i, _ => by
    rw [arrow]
    exact liT_ok RN RL i (by omega) tt K 0 hto
  | a :: fs, i, h => by
    rw [arrow, okT, Bool.and_eq_true]
    refine ⟨by simp [shape]; rfl, ?_⟩
    have h1 := liT_ok RN RL i (by omega) a K 0 (h a (by simp))
    have h2 := arrow_ok RN RL tt K hto fs (i + 1) (fun b hb => h b (by simp [hb]))
    rw [okTL, okTL, okTL]
    rw [show under 6 0 (K + (i : Int)) = K + (i : Int) by simp [under, binds], show under 6 (0 + 1) (K + (i : Int)) = K + ((i + 1 : Nat) : Int) by simp [under, binds]; omega, h1, h2]
    rfl
theorem foldr_max (f : Tm → Int) : ∀ (fs : List Tm) (x : Int), fs.foldr (fun a m => max (f a) m) x = fs.foldl (fun m a => max m (f a)) x
  | [], _ => rfl
  | a :: fs, x => by
    rw [List.foldr_cons, List.foldl_cons, foldr_max f fs x]
    have gen : ∀ (l : List Tm) (x y : Int), l.foldl (fun m a => max m (f a)) (max x y) = max (l.foldl (fun m a => max m (f a)) x) y := by
      intro l
      induction l with
      | nil => intro x y; rfl
      | cons b l ih =>
        intro x y
        rw [List.foldl_cons, List.foldl_cons, ← ih]
        congr 1
        omega
    rw [gen]
    omega
theorem arr_loose {RN : ByteArray → Bool} {t : Tm} {fs : List Tm} (h : arrB RN t fs = true) : looseT RN (arrow t fs 0) = lmx RN t fs ∧ tnodes (arrow t fs 0) ≤ 2000 := by
  have h1 := h
  unfold arrB at h1
  rw [Bool.and_eq_true] at h1
  have hn := of_decide_eq_true h1.1
  have hall := List.all_eq_true.1 h1.2
  have ht := hall t (by simp)
  have hf : ∀ a ∈ fs, rightT RN 4 a 1125899906842624 = true := fun a ha => hall a (by simp [ha])
  have hnn := arrow_nodes t fs 0
  rw [nodes_snoc] at hn
  have e : min (1125899906842624 : Int) 1125899906842624 = 1125899906842624 := by omega
  have k1 := (rightT_ok ht).2.2
  rw [e] at k1
  have k2 := arrow_ok RN (rightB 4) t 1125899906842624 k1 fs 0 (fun a ha => by
    have := (rightT_ok (hf a ha)).2.2
    rwa [e] at this)
  have hR : rightT RN 4 (arrow t fs 0) 1125899906842624 = true := rightT_of (by omega) (by omega) (by rw [e]; simpa using k2)
  refine ⟨?_, by omega⟩
  rw [looseT, if_pos hR, show (0 : Int) = ((0 : Nat) : Int) from rfl, arrow_lo, foldr_max, lmx, looseT, if_pos ht]
  have gen : ∀ (l : List Tm) (x : Int), (∀ a ∈ l, rightT RN 4 a 1125899906842624 = true) → l.foldl (fun m a => max m (loT a 0)) x = l.foldl (fun m a => max m (looseT RN a)) x := by
    intro l
    induction l with
    | nil => intro x _; rfl
    | cons b l ih =>
      intro x h
      rw [List.foldl_cons, List.foldl_cons, ih _ (fun a ha => h a (by simp [ha]))]
      rw [show looseT RN b = loT b 0 by rw [looseT, if_pos (h b (by simp))]]
  exact gen fs _ hf
mutual
theorem nmOk_li (c : Int) : ∀ (t : Tm) (d : Int), nmOk t → nmOk (liT c t d)
  | .mk kd n nm ls ts, d, h => by
    rw [nmOk] at h
    rw [liT, nmOk]
    exact ⟨h.1, nmOkL_li c kd ts 0 d h.2⟩
theorem nmOkL_li (c kd : Int) : ∀ (ts : List Tm) (i : Nat) (d : Int), nmOkL ts → nmOkL (liTL c kd ts i d)
  | [], _, _, _ => by rw [liTL, nmOkL]; trivial
  | a :: ts, i, d, h => by
    rw [nmOkL] at h
    rw [liTL, nmOkL]
    exact ⟨nmOk_li c a _ h.1, nmOkL_li c kd ts (i + 1) d h.2⟩
end
theorem nmOk_arrow (tt : Tm) (hto : nmOk tt) : ∀ (fs : List Tm) (i : Nat), nmOkL fs → nmOk (arrow tt fs i)
  | [], i, _ => by rw [arrow]; exact nmOk_li _ _ _ hto
  | a :: fs, i, h => by
    rw [nmOkL] at h
    rw [arrow, nmOk, nmOkL, nmOkL, nmOkL]
    exact ⟨by rw [show (⟨#[]⟩ : ByteArray).size = 0 from rfl]; omega, nmOk_li _ _ _ h.1, nmOk_arrow tt hto fs (i + 1) h.2, trivial⟩
theorem looseT_pos (RN : ByteArray → Bool) (t : Tm) : 0 ≤ looseT RN t := by
  unfold looseT
  split
  · exact loT_pos t 0
  · exact Int.le_refl _
theorem nmL_pre {ts : List Tm} (h : nmOkL ts) : ∀ a, a ∈ ts → ∀ q, q ∈ pre a 0 0 → (tmOf q.1).size ≤ 140737488355328 := fun a ha => nm_pre a 0 0 (nmOkL_mem h ha)

set_option maxRecDepth 100000 in
set_option maxHeartbeats 4000000 in
theorem termArrows_any (t : Tm) (v : Value) (ts : List Tm) (A : Option Addr) (len cap : Nat) (w : World) (AL : ∀ w', Below w.heap.size w w' → Calls Tryz.prog 6 #[] w' (Ret w' (.bool true))) (CN : NameC w Nm.rightB) (hv : TmV w t v) (hnm : nmOk t) (hlen : ts.length = len) (hlc : len ≤ cap) (hnA : A = none → cap = 0) (hts : TsP w (fun _ => True) A 0 ts) (hnL : nmOkL ts) :
    Calls Tryz.prog 3 #[v, .slice A len cap] w (Ret w (.bool true)) := by
  have HAL := Lib.hid AL
  have HCN := Lib.hid CN
  have HNK := Lib.hid hnm
  have HNM := Lib.hid (nm_pre t 0 0 hnm)
  have HNL := Lib.hid hnL
  have HLEN := Lib.hid hlen
  have HTS := Lib.hid hts
  have HNA := Lib.hid hnA
  clear AL CN hnm hnL hlen hts hnA
  obtain ⟨g, hg⟩ : ∃ g, decide (2500 < rn t) = g := ⟨_, rfl⟩
  obtain ⟨L0, hL0⟩ : ∃ R, looseT Nm.rightB t = R := ⟨_, rfl⟩
  have hl0 : 0 ≤ L0 := by rw [← hL0]; exact looseT_pos _ _
  have HG := Lib.hid hg
  have HL0 := Lib.hid hL0
  clear hg hL0
  obtain ⟨l, s, rfl, ht⟩ := hv
  obtain ⟨⟨la, ll, lc, rfl⟩, sa, sl, sc, rfl⟩ := tmP_slices ht
  have HTT := Lib.hid ht
  obtain ⟨k, hk⟩ : ∃ k, tkOf t = k := ⟨_, rfl⟩
  obtain ⟨n, hn⟩ : ∃ n, tnOf t = n := ⟨_, rfl⟩
  obtain ⟨m, hmm⟩ : ∃ m, tmOf t = m := ⟨_, rfl⟩
  dsimp only [tv]
  rw [hk, hn, hmm]
  have HK := Lib.hid hk
  have HNN := Lib.hid hn
  have HMM := Lib.hid hmm
  clear hk hn hmm ht
  go_enter Tryz.func3, Tryz.ntmps3
  go_wp2_with fail
  have z1 : (w.alloc (.cells #[.int .i64 k, .int .i64 n, .string m, .slice la ll lc, .slice sa sl sc] 25)).heap.size = w.heap.size + 1 := by simp
  have r0 : (w.alloc (.cells #[.int .i64 k, .int .i64 n, .string m, .slice la ll lc, .slice sa sl sc] 25)).heap[w.heap.size]? = some (Obj.cells #[.int .i64 k, .int .i64 n, .string m, .slice la ll lc, .slice sa sl sc] 25 (0, 0)) := by
    have := heap_alloc_new w (.cells #[.int .i64 k, .int .i64 n, .string m, .slice la ll lc, .slice sa sl sc] 25)
    exact this
  have HB := Lib.hid (below_lit w (.cells #[.int .i64 k, .int .i64 n, .string m, .slice la ll lc, .slice sa sl sc] 25))
  have HRW0 := Lib.hid (r0)
  clear r0
  generalize (w.alloc (.cells #[.int .i64 k, .int .i64 n, .string m, .slice la ll lc, .slice sa sl sc] 25)) = W at *
  have HZ := Lib.hid z1
  clear z1
  have hk : Hid (∀ W', Below W.heap.size W W' → W'.cell? ⟨w.heap.size, 0, none⟩ = some (.int .i64 k) ∧ W'.cell? ⟨w.heap.size, 1, none⟩ = some (.int .i64 n) ∧ W'.cell? ⟨w.heap.size, 2, none⟩ = some (.string m) ∧ W'.cell? ⟨w.heap.size, 3, none⟩ = some (.slice la ll lc) ∧ W'.cell? ⟨w.heap.size, 4, none⟩ = some (.slice sa sl sc)) := fun W' h => five_cells ((h.block w.heap.size (by rw [HZ.out]; omega)).trans HRW0.out)
  have HC0 := Lib.hid (Below.refl W.heap.size W)
  have HT : Hid (TmV W t (.agg #[.int .i64 k, .int .i64 n, .string m, .slice la ll lc, .slice sa sl sc])) := by
    have : TmV W t (.agg #[.int .i64 k, .int .i64 n, .string m, .slice la ll lc, .slice sa sl sc]) := ⟨_, _, by rw [← HK.out, ← HNN.out, ← HMM.out], tmP_below HB.out HTT.out⟩
    exact this
  obtain ⟨a0, a1, a2, a3, a4⟩ := hk.out W HC0.out
  have hzw := HZ.out
  clear HRW0 HTT
  refine (HAL.out W HB.out).mono ?_
  rintro e v1 ⟨rfl, hb⟩
  have HC1 := Lib.hid (HC0.out.trans (hb.mono HC0.out.size))
  clear hb a0 a1 a2 a3 a4
  obtain ⟨a0, a1, a2, a3, a4⟩ := hk.out v1 HC1.out
  go_wp2_with fail
  refine (great_is t _ _ (HT.out.below HC1.out) HNK.out g HG.out).mono ?_
  rintro e v2 ⟨rfl, hb⟩
  have HC2 := Lib.hid (HC1.out.trans (hb.mono HC1.out.size))
  clear hb a0 a1 a2 a3 a4
  obtain ⟨a0, a1, a2, a3, a4⟩ := hk.out v2 HC2.out
  cases g with
  | true =>
    go_wp2_with fail
    go_ret
    exact ⟨rfl, HB.out.trans (HC2.out.mono HB.out.size)⟩
  | false =>
    have HM : Hid (tnodes t ≤ 100000) := by
      have h1 := of_decide_eq_false HG.out
      have h2 := tn_rn t
      have : tnodes t ≤ 100000 := by omega
      exact this
    clear HG
    by_cases h0 : 30 < len
    · have d0 : decide ((30 : Int) < (len : Int)) = true := by simp; omega
      go_wp2_with fail
      go_ret
      exact ⟨rfl, HB.out.trans (HC2.out.mono HB.out.size)⟩
    have d0 : decide ((30 : Int) < (len : Int)) = false := by simp; omega
    go_wp2_with fail
    refine (loose_is Nm.rightB t _ _ (HT.out.below HC2.out) HM.out HNM.out (HCN.out.below (HB.out.trans (HC2.out.mono HB.out.size))) L0 HL0.out).mono ?_
    rintro e v3 ⟨rfl, hb⟩
    have HC3 := Lib.hid (HC2.out.trans (hb.mono HC2.out.size))
    clear hb a0 a1 a2 a3 a4
    obtain ⟨a0, a1, a2, a3, a4⟩ := hk.out v3 HC3.out
    go_wp2_with fail
    go_loopw [5, 6, 7] (fun c r i wr => ∃ (j acc : Nat) (ml : Int), j ≤ len ∧ i = .int .i64 j ∧ c = .int .i64 acc ∧ r = .int .i64 ml ∧ Hid (∀ a ∈ ts.take j, tnodes a ≤ 100000) ∧ Hid (lmx Nm.rightB t (ts.take j) = ml) ∧ acc ≤ 2501 * j ∧ 0 ≤ ml ∧ Hid (Below W.heap.size W wr)) (fun _ _ i _ => len - (intOf i).toNat)
    case atStart =>
      have h1 : lmx Nm.rightB t (ts.take 0) = L0 := by rw [List.take_zero]; exact HL0.out
      exact ⟨0, 0, L0, Nat.zero_le _, rfl, rfl, rfl, fun a ha => by simp at ha, h1, by omega, hl0, HC3.out⟩
    case round =>
      obtain ⟨j, acc, ml, hj, rfl, rfl, rfl, hac, har, hab, hml, hgr⟩ := hrel
      by_cases hlt : j < len
      · have hx1 : j < ts.length := by rw [HLEN.out]; exact hlt
        have hln : decide ((j : Int) < (len : Int)) = true := by simp; omega
        obtain ⟨bk, o, l1, s1, eA, hbs, _, hc0, hc1, hc2, hc3, hc4, htm⟩ := tsP_get HTS.out j hx1
        subst eA
        obtain ⟨⟨xa, xl, xc, rfl⟩, ya, yl, yc, rfl⟩ := tmP_slices htm
        have hBw := HB.out.trans (hgr.out.mono HB.out.size)
        have HE0 := Lib.hid (show TmV wr ts[j] (tv ts[j] (.slice xa xl xc) (.slice ya yl yc)) from ⟨_, _, rfl, tmP_below hBw htm⟩)
        dsimp only [tv] at HE0
        have HEN := Lib.hid (nmOkL_mem HNL.out (List.getElem_mem hx1))
        have HEM := Lib.hid (nm_pre ts[j] 0 0 HEN.out)
        obtain ⟨q, hq⟩ : ∃ q, min (rn ts[j]) (2500 + 1) = q := ⟨_, rfl⟩
        obtain ⟨ge, hge⟩ : ∃ g, decide (2500 < rn ts[j]) = g := ⟨_, rfl⟩
        obtain ⟨le, hle⟩ : ∃ b, looseT Nm.rightB ts[j] = b := ⟨_, rfl⟩
        have HQ := Lib.hid hq
        have HGE := Lib.hid hge
        have HLE := Lib.hid hle
        have hq2 : q ≤ 2501 := by omega
        have hle0 : 0 ≤ le := by rw [← hle]; exact looseT_pos _ _
        have HTK : Hid (tnodes ts[j] ≤ 100000 → ∀ a ∈ ts.take (j + 1), tnodes a ≤ 100000) := by
          have : tnodes ts[j] ≤ 100000 → ∀ a ∈ ts.take (j + 1), tnodes a ≤ 100000 := fun h a ha => by
            rw [List.take_add_one, List.getElem?_eq_getElem hx1, List.mem_append] at ha
            rcases ha with ha | ha
            · exact hac.out a ha
            · simp at ha; rw [ha]; exact h
          exact this
        obtain ⟨mx, hmx⟩ : ∃ m, max ml le = m := ⟨_, rfl⟩
        have HLM : Hid (lmx Nm.rightB t (ts.take (j + 1)) = mx) := by
          have : lmx Nm.rightB t (ts.take (j + 1)) = mx := by
            rw [lmx_take hx1, har.out, hle, hmx]
          exact this
        have HT9 := Lib.hid (tn_rn ts[j])
        generalize hka : tkOf ts[j] = ka at *
        generalize hna : tnOf ts[j] = na at *
        generalize hma : tmOf ts[j] = ma at *
        have HE : Hid (TmV wr ts[j] (.agg #[.int .i64 ka, .int .i64 na, .string ma, .slice xa xl xc, .slice ya yl yc])) := HE0.out
        have hke : Hid (∀ W', Below wr.heap.size wr W' → W'.cell? ⟨bk, o + j * 5, none⟩ = some (.int .i64 ka) ∧ W'.cell? ⟨bk, o + j * 5 + 1, none⟩ = some (.int .i64 na) ∧ W'.cell? ⟨bk, o + j * 5 + 2, none⟩ = some (.string ma) ∧ W'.cell? ⟨bk, o + j * 5 + 3, none⟩ = some (.slice xa xl xc) ∧ W'.cell? ⟨bk, o + j * 5 + 4, none⟩ = some (.slice ya yl yc)) := fun W' h => by
          have hh := hBw.trans (h.mono hBw.size)
          exact ⟨(hh.cell (p := ⟨bk, _, none⟩) hbs).trans hc0, (hh.cell (p := ⟨bk, _, none⟩) hbs).trans hc1, (hh.cell (p := ⟨bk, _, none⟩) hbs).trans hc2, (hh.cell (p := ⟨bk, _, none⟩) hbs).trans hc3, (hh.cell (p := ⟨bk, _, none⟩) hbs).trans hc4⟩
        generalize ts[j] = tj at *
        have q1 : (0 : Int) ≤ (j : Int) := by omega
        have q2 : (j : Int) < (len : Int) := by omega
        have HU0 := Lib.hid (Below.refl wr.heap.size wr)
        obtain ⟨e0, e1, e2, e3, e4⟩ := hke.out wr HU0.out
        clear hq hge hle hka hna hma htm hc0 hc1 hc2 hc3 hc4 HE0
        go_wp2_with fail
        refine (great_is tj _ _ (HE.out.below HU0.out) HEN.out ge HGE.out).mono ?_
        rintro e u1 ⟨rfl, hb⟩
        have HU1 := Lib.hid (HU0.out.trans (hb.mono HU0.out.size))
        clear hb e0 e1 e2 e3 e4
        obtain ⟨e0, e1, e2, e3, e4⟩ := hke.out u1 HU1.out
        cases ge with
        | true =>
          go_wp2_with fail
          go_ret
          exact ⟨rfl, HB.out.trans ((hgr.out.trans (HU1.out.mono hgr.out.size)).mono HB.out.size)⟩
        | false =>
          have HME : Hid (tnodes tj ≤ 100000) := by
            have h1 := of_decide_eq_false HGE.out
            have h2 := HT9.out
            have : tnodes tj ≤ 100000 := by omega
            exact this
          have HAC := Lib.hid (HTK.out HME.out)
          go_wp2_with fail
          have hrn := rnodes_up 2500 (by decide) (tnodes tj) tj _ u1 (Nat.le_refl _) HEN.out (HE.out.below HU1.out)
          rw [HQ.out] at hrn
          refine (hrn).mono ?_
          rintro e u2 ⟨rfl, hb⟩
          have HU2 := Lib.hid (HU1.out.trans (hb.mono HU1.out.size))
          clear hb hrn e0 e1 e2 e3 e4
          obtain ⟨e0, e1, e2, e3, e4⟩ := hke.out u2 HU2.out
          go_wp2_with fail
          refine (loose_is Nm.rightB tj _ _ (HE.out.below HU2.out) HME.out HEM.out (HCN.out.below (HB.out.trans ((hgr.out.trans (HU2.out.mono hgr.out.size)).mono HB.out.size))) le HLE.out).mono ?_
          rintro e u3 ⟨rfl, hb⟩
          have HU3 := Lib.hid (HU2.out.trans (hb.mono HU2.out.size))
          clear hb e0 e1 e2 e3 e4
          obtain ⟨e0, e1, e2, e3, e4⟩ := hke.out u3 HU3.out
          by_cases hcm : ml ≤ le
          · obtain rfl : mx = le := by omega
            have hmm0 : max ml mx = mx := by omega
            go_wp2_with fail
            go_roundw
            case rel => exact ⟨j + 1, acc + q, mx, by omega, by go_num, by go_num, rfl, HAC.out, HLM.out, by omega, by omega, hgr.out.trans (HU3.out.mono hgr.out.size)⟩
            case measure => simp [intOf]; omega
          · obtain rfl : mx = ml := by omega
            have hmm0 : max mx le = mx := by omega
            have hcm2 : le ≤ mx := by omega
            go_wp2_with fail
            go_roundw
            case rel => exact ⟨j + 1, acc + q, mx, by omega, by go_num, by go_num, rfl, HAC.out, HLM.out, by omega, by omega, hgr.out.trans (HU3.out.mono hgr.out.size)⟩
            case measure => simp [intOf]; omega
      · obtain rfl : j = len := by omega
        have hln : decide ((j : Int) < (j : Int)) = false := by simp
        have HAC := Lib.hid hac.out
        have HLM := Lib.hid har.out
        have htk : ts.take j = ts := List.take_of_length_le (by rw [HLEN.out]; exact Nat.le_refl _)
        rw [htk] at HAC HLM
        clear hac har
        have HC5 := Lib.hid hgr.out
        by_cases hbig : 5000 < acc
        · have d5 : decide ((5000 : Int) < (acc : Int)) = true := by simp; omega
          go_wp2_with fail
          go_ret
          exact ⟨rfl, HB.out.trans (HC5.out.mono HB.out.size)⟩
        have d5 : decide ((5000 : Int) < (acc : Int)) = false := by simp; omega
        by_cases hbg2 : 1099511627776 < ml
        · have d6 : decide ((1099511627776 : Int) < ml) = true := by simp; omega
          go_wp2_with fail
          go_ret
          exact ⟨rfl, HB.out.trans (HC5.out.mono HB.out.size)⟩
        have d6 : decide ((1099511627776 : Int) < ml) = false := by simp; omega
        obtain ⟨b9, hb9⟩ : ∃ b, arrB Nm.rightB t ts = b := ⟨_, rfl⟩
        have HB9 := Lib.hid hb9
        clear hb9
        have HAM : Hid (∀ a, a ∈ ts ++ [t] → tnodes a ≤ 100000) := by
          have : ∀ a, a ∈ ts ++ [t] → tnodes a ≤ 100000 := fun a ha => by
            rcases List.mem_append.1 ha with ha | ha
            · exact HAC.out a ha
            · simp at ha; rw [ha]; exact HM.out
          exact this
        have HAN : Hid (∀ a, a ∈ ts ++ [t] → ∀ q, q ∈ pre a 0 0 → (tmOf q.1).size ≤ 140737488355328) := by
          have : ∀ a, a ∈ ts ++ [t] → ∀ q, q ∈ pre a 0 0 → (tmOf q.1).size ≤ 140737488355328 := fun a ha => by
            rcases List.mem_append.1 ha with ha | ha
            · exact nmL_pre HNL.out a ha
            · simp at ha; rw [ha]; exact HNM.out
          exact this
        clear a0 a1 a2 a3 a4
        obtain ⟨a0, a1, a2, a3, a4⟩ := hk.out wr HC5.out
        go_wp2_with fail
        refine (arrow_is Nm.rightB t _ ts A j cap _ (HT.out.below HC5.out) HM.out HLEN.out hlc (by omega) HNA.out (tsP_below (HB.out.trans (HC5.out.mono HB.out.size)) HTS.out) HAM.out HAN.out (HCN.out.below (HB.out.trans (HC5.out.mono HB.out.size)))).mono ?_
        rintro e v6 ⟨l9, s9, rfl, ht, hb⟩
        obtain ⟨⟨laX, llX, lcX, rfl⟩, saX, slX, scX, rfl⟩ := tmP_slices ht
        dsimp only [tv]
        obtain ⟨kX, hkX⟩ : ∃ q, tkOf (arrR Nm.rightB t ts) = q := ⟨_, rfl⟩
        obtain ⟨nX, hnX⟩ : ∃ q, tnOf (arrR Nm.rightB t ts) = q := ⟨_, rfl⟩
        obtain ⟨mX, hmX⟩ : ∃ q, tmOf (arrR Nm.rightB t ts) = q := ⟨_, rfl⟩
        rw [hkX, hnX, hmX, HB9.out]
        have hbx := below_lit v6 (.cells #[.int .i64 kX, .int .i64 nX, .string mX, .slice laX llX lcX, .slice saX slX scX] 25)
        have HD6 := Lib.hid (hb.trans (hbx.mono hb.size))
        have HXX := Lib.hid (heap_alloc_new v6 (.cells #[.int .i64 kX, .int .i64 nX, .string mX, .slice laX llX lcX, .slice saX slX scX] 25))
        have HSX := Lib.hid (show v6.heap.size < (v6.alloc (.cells #[.int .i64 kX, .int .i64 nX, .string mX, .slice laX llX lcX, .slice saX slX scX] 25)).heap.size by simp)
        have HVX : Hid (TmV (v6.alloc (.cells #[.int .i64 kX, .int .i64 nX, .string mX, .slice laX llX lcX, .slice saX slX scX] 25)) (arrR Nm.rightB t ts) (.agg #[.int .i64 kX, .int .i64 nX, .string mX, .slice laX llX lcX, .slice saX slX scX])) := by
          have : TmV (v6.alloc (.cells #[.int .i64 kX, .int .i64 nX, .string mX, .slice laX llX lcX, .slice saX slX scX] 25)) (arrR Nm.rightB t ts) (.agg #[.int .i64 kX, .int .i64 nX, .string mX, .slice laX llX lcX, .slice saX slX scX]) := ⟨_, _, by rw [← hkX, ← hnX, ← hmX], tmP_below hbx (tmP_weak (fun _ _ => trivial) ht)⟩
          exact this
        have HC6 := Lib.hid (HC5.out.trans (HD6.out.mono HC5.out.size))
        clear ht hb hbx HD6 hkX hnX hmX
        clear a0 a1 a2 a3 a4
        obtain ⟨a0, a1, a2, a3, a4⟩ := hk.out (v6.alloc (.cells #[.int .i64 kX, .int .i64 nX, .string mX, .slice laX llX lcX, .slice saX slX scX] 25)) HC6.out
        go_wp2_with fail
        generalize v6.alloc (.cells #[.int .i64 kX, .int .i64 nX, .string mX, .slice laX llX lcX, .slice saX slX scX] 25) = W6 at *
        generalize v6.heap.size = BX at *
        refine (refArrow_is t _ ts A j cap _ (HT.out.below HC6.out) HM.out HNK.out HLEN.out hlc (by omega) (tsP_below (HB.out.trans (HC6.out.mono HB.out.size)) HTS.out) HAC.out HNL.out).mono ?_
        rintro e v7 ⟨l9, s9, rfl, ht, hb⟩
        obtain ⟨⟨laY, llY, lcY, rfl⟩, saY, slY, scY, rfl⟩ := tmP_slices ht
        dsimp only [tv]
        obtain ⟨kY, hkY⟩ : ∃ q, tkOf (arrR Nm.rightB t ts) = q := ⟨_, rfl⟩
        obtain ⟨nY, hnY⟩ : ∃ q, tnOf (arrR Nm.rightB t ts) = q := ⟨_, rfl⟩
        obtain ⟨mY, hmY⟩ : ∃ q, tmOf (arrR Nm.rightB t ts) = q := ⟨_, rfl⟩
        rw [hkY, hnY, hmY, HB9.out]
        have hbx := below_lit v7 (.cells #[.int .i64 kY, .int .i64 nY, .string mY, .slice laY llY lcY, .slice saY slY scY] 25)
        have HD7 := Lib.hid (hb.trans (hbx.mono hb.size))
        have HXY := Lib.hid (heap_alloc_new v7 (.cells #[.int .i64 kY, .int .i64 nY, .string mY, .slice laY llY lcY, .slice saY slY scY] 25))
        have HSY := Lib.hid (show v7.heap.size < (v7.alloc (.cells #[.int .i64 kY, .int .i64 nY, .string mY, .slice laY llY lcY, .slice saY slY scY] 25)).heap.size by simp)
        have HVY : Hid (TmV (v7.alloc (.cells #[.int .i64 kY, .int .i64 nY, .string mY, .slice laY llY lcY, .slice saY slY scY] 25)) (arrR Nm.rightB t ts) (.agg #[.int .i64 kY, .int .i64 nY, .string mY, .slice laY llY lcY, .slice saY slY scY])) := by
          have : TmV (v7.alloc (.cells #[.int .i64 kY, .int .i64 nY, .string mY, .slice laY llY lcY, .slice saY slY scY] 25)) (arrR Nm.rightB t ts) (.agg #[.int .i64 kY, .int .i64 nY, .string mY, .slice laY llY lcY, .slice saY slY scY]) := ⟨_, _, by rw [← hkY, ← hnY, ← hmY], tmP_below hbx (tmP_weak (fun _ _ => trivial) ht)⟩
          exact this
        have HC7 := Lib.hid (HC6.out.trans (HD7.out.mono HC6.out.size))
        have HXX' := Lib.hid ((HD7.out.block BX HSX.out).trans HXX.out)
        have HSX' := Lib.hid (Nat.lt_of_lt_of_le HSX.out HD7.out.size)
        have HVX' := Lib.hid (HVX.out.below HD7.out)
        clear HXX HSX HVX
        have HXX := Lib.hid HXX'.out
        have HSX := Lib.hid HSX'.out
        have HVX := Lib.hid HVX'.out
        clear HXX' HSX' HVX'
        clear ht hb hbx HD7 hkY hnY hmY
        clear a0 a1 a2 a3 a4
        obtain ⟨x0, x1, x2, x3, x4⟩ := five_cells HXX.out
        obtain ⟨y0, y1, y2, y3, y4⟩ := five_cells HXY.out
        cases b9 with
        | false =>
          go_wp2_with fail
          generalize v7.alloc (.cells #[.int .i64 kY, .int .i64 nY, .string mY, .slice laY llY lcY, .slice saY slY scY] 25) = W7 at *
          refine (sameTerm_is (arrR Nm.rightB t ts) _ _ _ HVX.out HVY.out).mono ?_
          rintro e u9 ⟨rfl, hb⟩
          have HC8 := Lib.hid (HC7.out.trans (hb.mono HC7.out.size))
          clear hb x0 x1 x2 x3 x4 y0 y1 y2 y3 y4
          go_wp2_with fail
          go_ret
          exact ⟨rfl, HB.out.trans (HC8.out.mono HB.out.size)⟩
        | true =>
          have HLO : Hid (looseT Nm.rightB (arrR Nm.rightB t ts) = ml) := by
            have : looseT Nm.rightB (arrR Nm.rightB t ts) = ml := by rw [arrR_is HB9.out, (arr_loose HB9.out).1]; exact HLM.out
            exact this
          have HLN : Hid (tnodes (arrR Nm.rightB t ts) ≤ 100000) := by
            have : tnodes (arrR Nm.rightB t ts) ≤ 100000 := by rw [arrR_is HB9.out]; exact Nat.le_trans (arr_loose HB9.out).2 (by decide)
            exact this
          have HLP : Hid (∀ q, q ∈ pre (arrR Nm.rightB t ts) 0 0 → (tmOf q.1).size ≤ 140737488355328) := by
            have : ∀ q, q ∈ pre (arrR Nm.rightB t ts) 0 0 → (tmOf q.1).size ≤ 140737488355328 := by rw [arrR_is HB9.out]; exact nm_pre _ 0 0 (nmOk_arrow t HNK.out ts 0 HNL.out)
            exact this
          have hmm : (ml == ml) = true := by simp
          go_wp2_with fail
          generalize v7.alloc (.cells #[.int .i64 kY, .int .i64 nY, .string mY, .slice laY llY lcY, .slice saY slY scY] 25) = W7 at *
          refine (sameTerm_is (arrR Nm.rightB t ts) _ _ _ HVX.out HVY.out).mono ?_
          rintro e u9 ⟨rfl, hb⟩
          have HC8 := Lib.hid (HC7.out.trans (hb.mono HC7.out.size))
          have HX8 := Lib.hid ((hb.block BX HSX.out).trans HXX.out)
          have HV8 := Lib.hid (HVX.out.below hb)
          clear hb x0 x1 x2 x3 x4 y0 y1 y2 y3 y4
          obtain ⟨x0, x1, x2, x3, x4⟩ := five_cells HX8.out
          go_wp2_with fail
          refine (loose_is Nm.rightB (arrR Nm.rightB t ts) _ _ HV8.out HLN.out HLP.out (HCN.out.below (HB.out.trans (HC8.out.mono HB.out.size))) ml HLO.out).mono ?_
          rintro e u10 ⟨rfl, hb⟩
          have HC9 := Lib.hid (HC8.out.trans (hb.mono HC8.out.size))
          clear hb x0 x1 x2 x3 x4
          go_wp2_with fail
          go_ret
          exact ⟨rfl, HB.out.trans (HC9.out.mono HB.out.size)⟩
end Trm
end Go.Proofs.YtbkdecgfiiajnaaGreatDoor
