/-
  Plain facts and contracts that the law's proof stands on, joined.
  Conditions: each fact's own.
-/
import Derived.Test.YteomfakbbcpckaaGreatDoorJ22
import Derived.Test.YteomfakbbcpckaaGreatDoorJ06
import Derived.Test.YteomfakbbcpckaaGreatDoorJ20
import Derived.Test.YteomfakbbcpckaaGreatDoorJ12
namespace Go.Proofs.YteomfakbbcpckaaGreatDoor
open Go.RowKit
open Lvl
open Trm
namespace Bnd
set_option maxRecDepth 100000 in
set_option maxHeartbeats 2500000 in
theorem is_cnt (w0 : World) (Bc : Nat) (z : Int) (hc : w0.cell? ⟨Bc, 0, none⟩ = some (.int .i64 z)) : IsC w0 53 #[.pointer (some ⟨Bc, 0, none⟩)] (fun n => n == z) := by
 intro w1 n hb
 have c0 := (hb.cell (p := ⟨Bc, 0, none⟩) (World.block_lt_of_cell? w0 ⟨Bc, 0, none⟩ hc)).trans hc
 clear hc
 show Calls Tryz.prog 53 #[.int .i64 n, .pointer (some ⟨Bc, 0, none⟩)] w1 _
 go_enter Tryz.func53, Tryz.ntmps53
 go_wp2_with fail
 go_ret
 exact ⟨rfl, Below.refl _ _⟩
set_option maxRecDepth 100000 in
set_option maxHeartbeats 2500000 in
theorem cntIn_cnt (RN : ByteArray → Bool) (w0 : World) (Bc : Nat) (p : Int → Bool) (HIS : Hid (IsC w0 53 #[.pointer (some ⟨Bc, 0, none⟩)] p)) : ∀ (N : Nat) (t : Tm) (d : Nat) (K : Int) (l s : Value) (w : World), tnodes t ≤ N → d + N ≤ 1000000 → N ≤ 100000 → okT RN (rightB 4) t K = true → K + N ≤ 2251799813685248 → TmP w (fun _ => True) t l s → Below w0.heap.size w0 w →
  Calls Tryz.prog 70 #[tv t l s, .int .i64 d, .func (.func 53) #[] #[.pointer (some ⟨Bc, 0, none⟩)]] w (Ret w (.int .i64 (cntT p t d : Nat))) := by
 intro N
 induction N with
 | zero => intro t _ _ _ _ _ h; have := tnodes_pos t; omega
 | succ N ih =>
 intro t d K l s w hN hd hN6 hok hK ht hb0
 obtain ⟨⟨la, ll, lc, rfl⟩, sa, sl, sc, rfl⟩ := tmP_slices ht
 cases t with
 | mk k n m ls ts =>
 rw [TmP] at ht
 obtain ⟨hls, A', len', cap', e9, hlen, hlc', hl47, hnone, hts⟩ := ht
 cases e9
 obtain ⟨hno, hvar⟩ := ok_node hok
 rw [okT, Bool.and_eq_true] at hok
 have IH := Lib.hid ih
 have HTS := Lib.hid hts
 have HLEN := Lib.hid hlen
 have HOK := Lib.hid hok.2
 have HVAR := Lib.hid hvar
 have HB0 := Lib.hid hb0
 have HTN : Hid (tnodesL ts ≤ N) := by
  rw [tnodes] at hN
  have : tnodesL ts ≤ N := by omega
  exact this
 have hn1 : k = 1 → -4503599627370496 ≤ n ∧ n ≤ 4503599627370496 := fun e => by have := (hvar e).2; omega
 have HN1 := Lib.hid hn1
 obtain ⟨b, hb⟩ : ∃ b, decide (k = 1 ∧ (d : Int) ≤ n) = b := ⟨_, rfl⟩
 obtain ⟨r, hr⟩ : ∃ r, (if b = true then n - d else 0) = r := ⟨_, rfl⟩
 have HBR := Lib.hid (And.intro hb hr)
 obtain ⟨CN, hCN⟩ : ∃ c, cntT p (.mk k n m ls ts) d = c := ⟨_, rfl⟩
 have HCN := Lib.hid hCN
 rw [hCN]
 clear hts hlen hls hN ih hok hno hvar hb0 hn1 hb hr hCN
 show Calls Tryz.prog 70 #[.agg #[.int .i64 k, .int .i64 n, .string m, .slice la ll lc, .slice sa sl sc], .int .i64 d, .func (.func 53) #[] #[.pointer (some ⟨Bc, 0, none⟩)]] w (Ret w (.int .i64 CN))
 go_enter Tryz.func70, Tryz.ntmps70
 go_wp2_with fail
 have z1 : (w.alloc (.cells #[.int .i64 k, .int .i64 n, .string m, .slice la ll lc, .slice sa sl sc] 25)).heap.size = w.heap.size + 1 := by simp
 have r0 : (w.alloc (.cells #[.int .i64 k, .int .i64 n, .string m, .slice la ll lc, .slice sa sl sc] 25)).heap[w.heap.size]? = some (Obj.cells #[.int .i64 k, .int .i64 n, .string m, .slice la ll lc, .slice sa sl sc] 25 (0, 0)) := by
  have := heap_alloc_new w (.cells #[.int .i64 k, .int .i64 n, .string m, .slice la ll lc, .slice sa sl sc] 25)
  exact this
 have HB := Lib.hid (below_lit w (.cells #[.int .i64 k, .int .i64 n, .string m, .slice la ll lc, .slice sa sl sc] 25))
 have HR0 := Lib.hid (r0)
 clear r0
 generalize (w.alloc (.cells #[.int .i64 k, .int .i64 n, .string m, .slice la ll lc, .slice sa sl sc] 25)) = W at *
 have HZ := Lib.hid z1
 clear z1
 have hz := HZ.out
 have HW0 := Lib.hid (HB0.out.trans (HB.out.mono HB0.out.size))
 have hk : Hid (∀ W', Below W.heap.size W W' → W'.heap[w.heap.size]? = some (Obj.cells #[.int .i64 k, .int .i64 n, .string m, .slice la ll lc, .slice sa sl sc] 25 (0, 0))) := fun W' h => (h.block w.heap.size (by omega)).trans HR0.out
 clear HR0
 refine (lloose_is k n m la ll lc sa sl sc d W HN1.out (by omega) b HBR.out.1 r HBR.out.2).mono ?_
 rintro e v2 ⟨rfl, hb2⟩
 have Hv2 := Lib.hid hb2
 clear hb2
 cases b with
 | false =>
  have HNOT : Hid (¬ (k = 1 ∧ (d : Int) ≤ n ∧ p (n - d) = true)) := by
   have : ¬ (k = 1 ∧ (d : Int) ≤ n ∧ p (n - d) = true) := fun h => by
    have := HBR.out.1
    simp [h.1, h.2.1] at this
   exact this
  have hca : Hid (cntA p k ts.length ts 0 d = CN) := by
   have : cntA p k ts.length ts 0 d = CN := by
    rw [← HCN.out, cntT, if_neg]
    exact HNOT.out
   exact this
  obtain ⟨a0, a1, a2, a3, a4⟩ := five_cells (hk.out v2 Hv2.out)
  go_wp2_with fail
  go_loopw [9, 10, 11, 28] (fun c _ _ i wr => ∃ j acc : Nat, j ≤ sl ∧ i = .int .i64 j ∧ c = .int .i64 acc ∧ Hid (cntA p k ts.length (ts.take j) 0 d = acc) ∧ Hid (Below W.heap.size W wr)) (fun _ _ _ i _ => sl - (intOf i).toNat)
  case atStart => exact ⟨0, 0, Nat.zero_le _, rfl, rfl, by rw [List.take_zero, cntA]; exact rfl, Hv2.out⟩
  case round =>
   obtain ⟨j, acc, hj, rfl, rfl, hal, hgr⟩ := hrel
   have hac : acc ≤ 100000 := by
    have h1 := cntA_cut p k ts.length ts j d
    rw [hal.out] at h1
    have := HTN.out
    omega
   by_cases hlt : j < sl
   ·have hx1 : j < ts.length := by rw [HLEN.out]; exact hlt
    have hln : decide ((j : Int) < (sl : Int)) = true := by simp; omega
    obtain ⟨bk, o, l1, s1, eA, hbs, _, hc0, hc1, hc2, hc3, hc4, htm⟩ := tsP_get HTS.out j hx1
    subst eA
    obtain ⟨⟨xa, xl, xc, rfl⟩, ya, yl, yc, rfl⟩ := tmP_slices htm
    have HBr := Lib.hid (HB.out.trans (hgr.out.mono HB.out.size))
    have d0 := (HBr.out.cell (p := ⟨bk, _, none⟩) hbs).trans hc0
    have d1 := (HBr.out.cell (p := ⟨bk, _, none⟩) hbs).trans hc1
    have d2 := (HBr.out.cell (p := ⟨bk, _, none⟩) hbs).trans hc2
    have d3 := (HBr.out.cell (p := ⟨bk, _, none⟩) hbs).trans hc3
    have d4 := (HBr.out.cell (p := ⟨bk, _, none⟩) hbs).trans hc4
    obtain ⟨R, hR⟩ : ∃ R, bndP k ts.length j = R := ⟨_, rfl⟩
    have hR1' : R ≤ 1 := by rw [← hR]; exact bndP_le _ _ _
    have HRR : Hid (bndP k sl j = R) := by rw [← HLEN.out]; exact hR
    obtain ⟨dn, hdn⟩ : ∃ q, q = d + R := ⟨_, rfl⟩
    have hw1 : IntKind.i64.wrap ((d : Int) + (R : Int)) = (dn : Int) := (IntWalk.i64_in _ ⟨by omega, by omega⟩).trans (by omega)
    have htk := cntA_take p k ts.length hx1 d
    rw [hR, ← hdn, hal.out] at htk
    obtain ⟨q, hq⟩ : ∃ q, cntT p ts[j] dn = q := ⟨_, rfl⟩
    rw [hq] at htk
    have hq6 : q ≤ 100000 := by
     have h1 := cntT_le p ts[j] dn
     have h2 := tnodes_mem (List.getElem_mem hx1)
     have h3 := HTN.out
     omega
    have HTK := Lib.hid htk
    have hchild := ok_child HOK.out j hx1
    rw [Nat.zero_add] at hchild
    have hub : under k j K ≤ K + 1 := by unfold under; split <;> omega
    have hcall := fun (w' : World) (hw : Below w.heap.size w w') => IH.out ts[j] dn (under k j K) (.slice xa xl xc) (.slice ya yl yc) w' (Nat.le_trans (tnodes_mem (List.getElem_mem hx1)) HTN.out) (by omega) (by omega) hchild (by omega) (tmP_below hw htm) (HB0.out.trans (hw.mono HB0.out.size))
    rw [hq] at hcall
    have HCALL := Lib.hid hcall
    dsimp only [tv] at HCALL
    have q1 : (0 : Int) ≤ (j : Int) := by omega
    have q2 : (j : Int) < (sl : Int) := by omega
    have hw3 : IntKind.i64.wrap ((acc : Int) + (q : Int)) = (acc : Int) + (q : Int) := IntWalk.i64_in _ ⟨by omega, by omega⟩
    clear hcall htm hc0 hc1 hc2 hc3 hc4 hR hdn hq hchild htk
    generalize tkOf ts[j] = ka at *
    generalize tnOf ts[j] = na at *
    generalize tmOf ts[j] = ma at *
    have hbx := below_lit wr (.cells #[.int .i64 ka, .int .i64 na, .string ma, .slice xa xl xc, .slice ya yl yc] 25)
    have hrx := heap_alloc_new wr (.cells #[.int .i64 ka, .int .i64 na, .string ma, .slice xa xl xc, .slice ya yl yc] 25)
    have hsx : (wr.alloc (.cells #[.int .i64 ka, .int .i64 na, .string ma, .slice xa xl xc, .slice ya yl yc] 25)).heap.size = wr.heap.size + 1 := by simp
    have hr0 := hk.out wr hgr.out
    have hsr := hgr.out.size
    have HGX := Lib.hid (hgr.out.trans (hbx.mono hgr.out.size))
    have hk8 : Hid (∀ W', Below (wr.alloc (.cells #[.int .i64 ka, .int .i64 na, .string ma, .slice xa xl xc, .slice ya yl yc] 25)).heap.size (wr.alloc (.cells #[.int .i64 ka, .int .i64 na, .string ma, .slice xa xl xc, .slice ya yl yc] 25)) W' → W'.cell? ⟨wr.heap.size, 0, none⟩ = some (.int .i64 ka) ∧ W'.cell? ⟨wr.heap.size, 1, none⟩ = some (.int .i64 na) ∧ W'.cell? ⟨wr.heap.size, 2, none⟩ = some (.string ma) ∧ W'.cell? ⟨wr.heap.size, 3, none⟩ = some (.slice xa xl xc) ∧ W'.cell? ⟨wr.heap.size, 4, none⟩ = some (.slice ya yl yc) ∧ W'.cell? ⟨w.heap.size, 0, none⟩ = some (.int .i64 k) ∧ W'.cell? ⟨w.heap.size, 1, none⟩ = some (.int .i64 n) ∧ W'.cell? ⟨w.heap.size, 2, none⟩ = some (.string m) ∧ W'.cell? ⟨w.heap.size, 3, none⟩ = some (.slice la ll lc) ∧ W'.cell? ⟨w.heap.size, 4, none⟩ = some (.slice (some ⟨bk, o, none⟩) sl sc)) := fun W' h => by
     obtain ⟨e0, e1, e2, e3, e4⟩ := five_cells ((h.block wr.heap.size (by omega)).trans hrx)
     obtain ⟨a0, a1, a2, a3, a4⟩ := five_cells ((h.block w.heap.size (by omega)).trans ((hbx.block w.heap.size (by omega)).trans hr0))
     exact ⟨e0, e1, e2, e3, e4, a0, a1, a2, a3, a4⟩
    have HW7 := Lib.hid (HBr.out.trans (hbx.mono HBr.out.size))
    go_upto_region 8 with fail
    generalize wr.alloc (.cells #[.int .i64 ka, .int .i64 na, .string ma, .slice xa xl xc, .slice ya yl yc] 25) = W7 at *
    clear d0 d1 d2 d3 d4 hrx hr0 hbx
    refine wp_region_held_drew (S := fun W' => W'.cell? ⟨wr.heap.size, 0, none⟩ = some (.int .i64 ka) ∧ W'.cell? ⟨wr.heap.size, 1, none⟩ = some (.int .i64 na) ∧ W'.cell? ⟨wr.heap.size, 2, none⟩ = some (.string ma) ∧ W'.cell? ⟨wr.heap.size, 3, none⟩ = some (.slice xa xl xc) ∧ W'.cell? ⟨wr.heap.size, 4, none⟩ = some (.slice ya yl yc) ∧ W'.cell? ⟨w.heap.size, 0, none⟩ = some (.int .i64 k) ∧ W'.cell? ⟨w.heap.size, 1, none⟩ = some (.int .i64 n) ∧ W'.cell? ⟨w.heap.size, 2, none⟩ = some (.string m) ∧ W'.cell? ⟨w.heap.size, 3, none⟩ = some (.slice la ll lc) ∧ W'.cell? ⟨w.heap.size, 4, none⟩ = some (.slice (some ⟨bk, o, none⟩) sl sc)) (by kernel_rfl) (hk8.out _ ((Below.refl _ _).drew)) (fun hHeld => ?_)
    refine take_in (i := 0) (v := ?_) rfl (by kernel_rfl) (by kernel_rfl) (by kernel_rfl) (fun _ _ _ h => h) (by rfl) ?_ hHeld ?_
    rotate_left
    ·intro w hSw
     (try dsimp only at hSw)
     go_simp
     try with_reducible rfl
    try simp only [Act.put, s1q, s2q, s3q]
    refine take_in (i := 1) (v := ?_) rfl (by kernel_rfl) (by kernel_rfl) (by kernel_rfl) (fun _ _ _ h => h) (by rfl) ?_ hHeld ?_
    rotate_left
    ·intro w hSw
     (try dsimp only at hSw)
     go_simp
     try with_reducible rfl
    try simp only [Act.put, s1q, s2q, s3q]
    refine take_in (i := 2) (v := ?_) rfl (by kernel_rfl) (by kernel_rfl) (by kernel_rfl) (fun _ _ _ h => h) (by rfl) ?_ hHeld ?_
    rotate_left
    ·intro w hSw
     (try dsimp only at hSw)
     go_simp
     try with_reducible rfl
    try simp only [Act.put, s1q, s2q, s3q]
    refine take_in (i := 3) (v := ?_) rfl (by kernel_rfl) (by kernel_rfl) (by kernel_rfl) (fun _ _ _ h => h) (by rfl) ?_ hHeld ?_
    rotate_left
    ·intro w hSw
     (try dsimp only at hSw)
     go_simp
     try with_reducible rfl
    try simp only [Act.put, s1q, s2q, s3q]
    refine take_in (i := 4) (v := ?_) rfl (by kernel_rfl) (by kernel_rfl) (by kernel_rfl) (fun _ _ _ h => h) (by rfl) ?_ hHeld ?_
    rotate_left
    ·intro w hSw
     (try dsimp only at hSw)
     go_simp
     try with_reducible rfl
    try simp only [Act.put, s1q, s2q, s3q]
    refine take_in (i := 7) (v := ?_) rfl (by kernel_rfl) (by kernel_rfl) (by kernel_rfl) (fun _ _ _ h => h) (by rfl) ?_ hHeld ?_
    rotate_left
    ·intro w hSw
     (try dsimp only at hSw)
     go_simp
     try with_reducible rfl
    try simp only [Act.put, s1q, s2q, s3q]
    refine call_in (i := 5) rfl (by kernel_rfl) (fun K hK => ?_)
    clear hHeld
    go_simp
    go_at_call 97
    refine (bbinds_is k n m _ (some ⟨bk, o, none⟩) sl sc j _ hl47 la ll lc rfl).mono ?_
    rintro e w5 ⟨rfl, hb5⟩
    rw [HRR.out]
    have HC5 := Lib.hid ((Below.refl W7.heap.size W7).drew.trans hb5)
    clear hb5
    try (go_wp2_with fail)
    refine hK.out _ _ (hk8.out _ HC5.out) (fun hHeld => ?_)
    clear hK K
    try simp only [Act.put, s1q, s2q, s3q]
    refine take_in (i := 6) (v := ?_) rfl (by kernel_rfl) (by kernel_rfl) (by kernel_rfl) (fun _ _ _ h => h) (by rfl) ?_ hHeld ?_
    rotate_left
    ·intro w hSw
     (try dsimp only at hSw)
     go_simp
     try with_reducible rfl
    try simp only [Act.put, s1q, s2q, s3q]
    refine call_in (i := 8) rfl (by kernel_rfl) (fun K hK => ?_)
    clear hHeld
    go_simp
    go_at_call 70
    try rw [show (d : Int) + (R : Int) = (dn : Int) by omega]
    refine (HCALL.out w5 (HW7.out.trans (HC5.out.mono HW7.out.size))).mono ?_
    rintro e w8 ⟨rfl, hb8⟩
    have HC8 := Lib.hid (HC5.out.trans (hb8.mono HC5.out.size))
    clear hb8
    try (go_wp2_with fail)
    refine hK.out _ _ (hk8.out _ HC8.out) (fun hHeld => ?_)
    clear hK K
    try simp only [Act.put, s1q, s2q, s3q]
    refine take_in (i := 9) (v := ?_) rfl (by kernel_rfl) (by kernel_rfl) (by kernel_rfl) (fun _ _ _ h => h) (by rfl) ?_ hHeld ?_
    rotate_left
    ·intro w hSw
     (try dsimp only at hSw)
     go_simp
     try with_reducible rfl
    try simp only [Act.put, s1q, s2q, s3q]
    refine take_in (i := 10) (v := ?_) rfl (by kernel_rfl) (by kernel_rfl) (by kernel_rfl) (fun _ _ _ h => h) (by rfl) ?_ hHeld ?_
    rotate_left
    ·intro w hSw
     (try dsimp only at hSw)
     go_simp
     try with_reducible rfl
    try simp only [Act.put, s1q, s2q, s3q]
    refine wpAnyH_done (by kernel_rfl) ?_ _
    have HR8 := Lib.hid (HGX.out.trans (HC8.out.mono HGX.out.size))
    clear hk8
    go_wp2_with fail
    go_roundw
    case rel => exact ⟨j + 1, acc + q, by omega, by go_num, by go_num, HTK.out, HR8.out⟩
    case measure => simp [intOf]; omega
   ·obtain rfl : sl = j := by omega
    have hln : decide ((sl : Int) < (sl : Int)) = false := by simp
    have hfin : acc = CN := by
     have h1 := hal.out
     rw [List.take_of_length_le (by rw [HLEN.out]; exact Nat.le_refl _), hca.out] at h1
     exact h1.symm
    have HFIN := Lib.hid hfin
    clear hfin
    go_wp2_with fail
    go_ret
    exact ⟨by rw [HFIN.out]; rfl, HB.out.trans (hgr.out.mono HB.out.size)⟩
 | true =>
  have hkn : k = 1 ∧ (d : Int) ≤ n := of_decide_eq_true HBR.out.1
  have hrr : n - d = r := by have := HBR.out.2; rw [if_pos rfl] at this; exact this
  have HKN := Lib.hid hkn
  have HRR0 := Lib.hid hrr
  obtain ⟨pb, hpb⟩ : ∃ q, p r = q := ⟨_, rfl⟩
  have hcall := HIS.out v2 r (HW0.out.trans (Hv2.out.mono HW0.out.size))
  rw [hpb] at hcall
  have HCALLI : Hid (Calls Tryz.prog 53 #[.int .i64 r, .pointer (some ⟨Bc, 0, none⟩)] v2 (Ret v2 (.bool pb))) := hcall
  have HPB := Lib.hid hpb
  clear hkn hrr hpb hcall
  go_wp2_with fail
  refine HCALLI.out.mono ?_
  rintro e v3 ⟨rfl, hb3⟩
  have Hv3 := Lib.hid (Hv2.out.trans (hb3.mono Hv2.out.size))
  clear hb3 HCALLI
  cases pb with
  | true =>
   have h1 : CN = 1 := by rw [← HCN.out, cntT, if_pos ⟨HKN.out.1, HKN.out.2, by rw [HRR0.out]; exact HPB.out⟩]
   have H1 := Lib.hid h1
   clear h1
   go_wp2_with fail
   go_ret
   exact ⟨by rw [H1.out]; rfl, HB.out.trans (Hv3.out.mono HB.out.size)⟩
  | false =>
   have HNOT : Hid (¬ (k = 1 ∧ (d : Int) ≤ n ∧ p (n - d) = true)) := by
    have : ¬ (k = 1 ∧ (d : Int) ≤ n ∧ p (n - d) = true) := fun h => by
     have h1 := h.2.2
     rw [HRR0.out, HPB.out] at h1
     cases h1
    exact this
   have hca : Hid (cntA p k ts.length ts 0 d = CN) := by
    have : cntA p k ts.length ts 0 d = CN := by
     rw [← HCN.out, cntT, if_neg]
     exact HNOT.out
    exact this
   obtain ⟨a0, a1, a2, a3, a4⟩ := five_cells (hk.out v3 Hv3.out)
   go_wp2_with fail
   go_loopw [9, 10, 11, 28] (fun c _ _ i wr => ∃ j acc : Nat, j ≤ sl ∧ i = .int .i64 j ∧ c = .int .i64 acc ∧ Hid (cntA p k ts.length (ts.take j) 0 d = acc) ∧ Hid (Below W.heap.size W wr)) (fun _ _ _ i _ => sl - (intOf i).toNat)
   case atStart => exact ⟨0, 0, Nat.zero_le _, rfl, rfl, by rw [List.take_zero, cntA]; exact rfl, Hv3.out⟩
   case round =>
    obtain ⟨j, acc, hj, rfl, rfl, hal, hgr⟩ := hrel
    have hac : acc ≤ 100000 := by
     have h1 := cntA_cut p k ts.length ts j d
     rw [hal.out] at h1
     have := HTN.out
     omega
    by_cases hlt : j < sl
    ·have hx1 : j < ts.length := by rw [HLEN.out]; exact hlt
     have hln : decide ((j : Int) < (sl : Int)) = true := by simp; omega
     obtain ⟨bk, o, l1, s1, eA, hbs, _, hc0, hc1, hc2, hc3, hc4, htm⟩ := tsP_get HTS.out j hx1
     subst eA
     obtain ⟨⟨xa, xl, xc, rfl⟩, ya, yl, yc, rfl⟩ := tmP_slices htm
     have HBr := Lib.hid (HB.out.trans (hgr.out.mono HB.out.size))
     have d0 := (HBr.out.cell (p := ⟨bk, _, none⟩) hbs).trans hc0
     have d1 := (HBr.out.cell (p := ⟨bk, _, none⟩) hbs).trans hc1
     have d2 := (HBr.out.cell (p := ⟨bk, _, none⟩) hbs).trans hc2
     have d3 := (HBr.out.cell (p := ⟨bk, _, none⟩) hbs).trans hc3
     have d4 := (HBr.out.cell (p := ⟨bk, _, none⟩) hbs).trans hc4
     obtain ⟨R, hR⟩ : ∃ R, bndP k ts.length j = R := ⟨_, rfl⟩
     have hR1' : R ≤ 1 := by rw [← hR]; exact bndP_le _ _ _
     have HRR : Hid (bndP k sl j = R) := by rw [← HLEN.out]; exact hR
     obtain ⟨dn, hdn⟩ : ∃ q, q = d + R := ⟨_, rfl⟩
     have hw1 : IntKind.i64.wrap ((d : Int) + (R : Int)) = (dn : Int) := (IntWalk.i64_in _ ⟨by omega, by omega⟩).trans (by omega)
     have htk := cntA_take p k ts.length hx1 d
     rw [hR, ← hdn, hal.out] at htk
     obtain ⟨q, hq⟩ : ∃ q, cntT p ts[j] dn = q := ⟨_, rfl⟩
     rw [hq] at htk
     have hq6 : q ≤ 100000 := by
      have h1 := cntT_le p ts[j] dn
      have h2 := tnodes_mem (List.getElem_mem hx1)
      have h3 := HTN.out
      omega
     have HTK := Lib.hid htk
     have hchild := ok_child HOK.out j hx1
     rw [Nat.zero_add] at hchild
     have hub : under k j K ≤ K + 1 := by unfold under; split <;> omega
     have hcall := fun (w' : World) (hw : Below w.heap.size w w') => IH.out ts[j] dn (under k j K) (.slice xa xl xc) (.slice ya yl yc) w' (Nat.le_trans (tnodes_mem (List.getElem_mem hx1)) HTN.out) (by omega) (by omega) hchild (by omega) (tmP_below hw htm) (HB0.out.trans (hw.mono HB0.out.size))
     rw [hq] at hcall
     have HCALL := Lib.hid hcall
     dsimp only [tv] at HCALL
     have q1 : (0 : Int) ≤ (j : Int) := by omega
     have q2 : (j : Int) < (sl : Int) := by omega
     have hw3 : IntKind.i64.wrap ((acc : Int) + (q : Int)) = (acc : Int) + (q : Int) := IntWalk.i64_in _ ⟨by omega, by omega⟩
     clear hcall htm hc0 hc1 hc2 hc3 hc4 hR hdn hq hchild htk
     generalize tkOf ts[j] = ka at *
     generalize tnOf ts[j] = na at *
     generalize tmOf ts[j] = ma at *
     have hbx := below_lit wr (.cells #[.int .i64 ka, .int .i64 na, .string ma, .slice xa xl xc, .slice ya yl yc] 25)
     have hrx := heap_alloc_new wr (.cells #[.int .i64 ka, .int .i64 na, .string ma, .slice xa xl xc, .slice ya yl yc] 25)
     have hsx : (wr.alloc (.cells #[.int .i64 ka, .int .i64 na, .string ma, .slice xa xl xc, .slice ya yl yc] 25)).heap.size = wr.heap.size + 1 := by simp
     have hr0 := hk.out wr hgr.out
     have hsr := hgr.out.size
     have HGX := Lib.hid (hgr.out.trans (hbx.mono hgr.out.size))
     have hk8 : Hid (∀ W', Below (wr.alloc (.cells #[.int .i64 ka, .int .i64 na, .string ma, .slice xa xl xc, .slice ya yl yc] 25)).heap.size (wr.alloc (.cells #[.int .i64 ka, .int .i64 na, .string ma, .slice xa xl xc, .slice ya yl yc] 25)) W' → W'.cell? ⟨wr.heap.size, 0, none⟩ = some (.int .i64 ka) ∧ W'.cell? ⟨wr.heap.size, 1, none⟩ = some (.int .i64 na) ∧ W'.cell? ⟨wr.heap.size, 2, none⟩ = some (.string ma) ∧ W'.cell? ⟨wr.heap.size, 3, none⟩ = some (.slice xa xl xc) ∧ W'.cell? ⟨wr.heap.size, 4, none⟩ = some (.slice ya yl yc) ∧ W'.cell? ⟨w.heap.size, 0, none⟩ = some (.int .i64 k) ∧ W'.cell? ⟨w.heap.size, 1, none⟩ = some (.int .i64 n) ∧ W'.cell? ⟨w.heap.size, 2, none⟩ = some (.string m) ∧ W'.cell? ⟨w.heap.size, 3, none⟩ = some (.slice la ll lc) ∧ W'.cell? ⟨w.heap.size, 4, none⟩ = some (.slice (some ⟨bk, o, none⟩) sl sc)) := fun W' h => by
      obtain ⟨e0, e1, e2, e3, e4⟩ := five_cells ((h.block wr.heap.size (by omega)).trans hrx)
      obtain ⟨a0, a1, a2, a3, a4⟩ := five_cells ((h.block w.heap.size (by omega)).trans ((hbx.block w.heap.size (by omega)).trans hr0))
      exact ⟨e0, e1, e2, e3, e4, a0, a1, a2, a3, a4⟩
     have HW7 := Lib.hid (HBr.out.trans (hbx.mono HBr.out.size))
     go_upto_region 8 with fail
     generalize wr.alloc (.cells #[.int .i64 ka, .int .i64 na, .string ma, .slice xa xl xc, .slice ya yl yc] 25) = W7 at *
     clear d0 d1 d2 d3 d4 hrx hr0 hbx
     refine wp_region_held_drew (S := fun W' => W'.cell? ⟨wr.heap.size, 0, none⟩ = some (.int .i64 ka) ∧ W'.cell? ⟨wr.heap.size, 1, none⟩ = some (.int .i64 na) ∧ W'.cell? ⟨wr.heap.size, 2, none⟩ = some (.string ma) ∧ W'.cell? ⟨wr.heap.size, 3, none⟩ = some (.slice xa xl xc) ∧ W'.cell? ⟨wr.heap.size, 4, none⟩ = some (.slice ya yl yc) ∧ W'.cell? ⟨w.heap.size, 0, none⟩ = some (.int .i64 k) ∧ W'.cell? ⟨w.heap.size, 1, none⟩ = some (.int .i64 n) ∧ W'.cell? ⟨w.heap.size, 2, none⟩ = some (.string m) ∧ W'.cell? ⟨w.heap.size, 3, none⟩ = some (.slice la ll lc) ∧ W'.cell? ⟨w.heap.size, 4, none⟩ = some (.slice (some ⟨bk, o, none⟩) sl sc)) (by kernel_rfl) (hk8.out _ ((Below.refl _ _).drew)) (fun hHeld => ?_)
     refine take_in (i := 0) (v := ?_) rfl (by kernel_rfl) (by kernel_rfl) (by kernel_rfl) (fun _ _ _ h => h) (by rfl) ?_ hHeld ?_
     rotate_left
     ·intro w hSw
      (try dsimp only at hSw)
      go_simp
      try with_reducible rfl
     try simp only [Act.put, s1q, s2q, s3q]
     refine take_in (i := 1) (v := ?_) rfl (by kernel_rfl) (by kernel_rfl) (by kernel_rfl) (fun _ _ _ h => h) (by rfl) ?_ hHeld ?_
     rotate_left
     ·intro w hSw
      (try dsimp only at hSw)
      go_simp
      try with_reducible rfl
     try simp only [Act.put, s1q, s2q, s3q]
     refine take_in (i := 2) (v := ?_) rfl (by kernel_rfl) (by kernel_rfl) (by kernel_rfl) (fun _ _ _ h => h) (by rfl) ?_ hHeld ?_
     rotate_left
     ·intro w hSw
      (try dsimp only at hSw)
      go_simp
      try with_reducible rfl
     try simp only [Act.put, s1q, s2q, s3q]
     refine take_in (i := 3) (v := ?_) rfl (by kernel_rfl) (by kernel_rfl) (by kernel_rfl) (fun _ _ _ h => h) (by rfl) ?_ hHeld ?_
     rotate_left
     ·intro w hSw
      (try dsimp only at hSw)
      go_simp
      try with_reducible rfl
     try simp only [Act.put, s1q, s2q, s3q]
     refine take_in (i := 4) (v := ?_) rfl (by kernel_rfl) (by kernel_rfl) (by kernel_rfl) (fun _ _ _ h => h) (by rfl) ?_ hHeld ?_
     rotate_left
     ·intro w hSw
      (try dsimp only at hSw)
      go_simp
      try with_reducible rfl
     try simp only [Act.put, s1q, s2q, s3q]
     refine take_in (i := 7) (v := ?_) rfl (by kernel_rfl) (by kernel_rfl) (by kernel_rfl) (fun _ _ _ h => h) (by rfl) ?_ hHeld ?_
     rotate_left
     ·intro w hSw
      (try dsimp only at hSw)
      go_simp
      try with_reducible rfl
     try simp only [Act.put, s1q, s2q, s3q]
     refine call_in (i := 5) rfl (by kernel_rfl) (fun K hK => ?_)
     clear hHeld
     go_simp
     go_at_call 97
     refine (bbinds_is k n m _ (some ⟨bk, o, none⟩) sl sc j _ hl47 la ll lc rfl).mono ?_
     rintro e w5 ⟨rfl, hb5⟩
     rw [HRR.out]
     have HC5 := Lib.hid ((Below.refl W7.heap.size W7).drew.trans hb5)
     clear hb5
     try (go_wp2_with fail)
     refine hK.out _ _ (hk8.out _ HC5.out) (fun hHeld => ?_)
     clear hK K
     try simp only [Act.put, s1q, s2q, s3q]
     refine take_in (i := 6) (v := ?_) rfl (by kernel_rfl) (by kernel_rfl) (by kernel_rfl) (fun _ _ _ h => h) (by rfl) ?_ hHeld ?_
     rotate_left
     ·intro w hSw
      (try dsimp only at hSw)
      go_simp
      try with_reducible rfl
     try simp only [Act.put, s1q, s2q, s3q]
     refine call_in (i := 8) rfl (by kernel_rfl) (fun K hK => ?_)
     clear hHeld
     go_simp
     go_at_call 70
     try rw [show (d : Int) + (R : Int) = (dn : Int) by omega]
     refine (HCALL.out w5 (HW7.out.trans (HC5.out.mono HW7.out.size))).mono ?_
     rintro e w8 ⟨rfl, hb8⟩
     have HC8 := Lib.hid (HC5.out.trans (hb8.mono HC5.out.size))
     clear hb8
     try (go_wp2_with fail)
     refine hK.out _ _ (hk8.out _ HC8.out) (fun hHeld => ?_)
     clear hK K
     try simp only [Act.put, s1q, s2q, s3q]
     refine take_in (i := 9) (v := ?_) rfl (by kernel_rfl) (by kernel_rfl) (by kernel_rfl) (fun _ _ _ h => h) (by rfl) ?_ hHeld ?_
     rotate_left
     ·intro w hSw
      (try dsimp only at hSw)
      go_simp
      try with_reducible rfl
     try simp only [Act.put, s1q, s2q, s3q]
     refine take_in (i := 10) (v := ?_) rfl (by kernel_rfl) (by kernel_rfl) (by kernel_rfl) (fun _ _ _ h => h) (by rfl) ?_ hHeld ?_
     rotate_left
     ·intro w hSw
      (try dsimp only at hSw)
      go_simp
      try with_reducible rfl
     try simp only [Act.put, s1q, s2q, s3q]
     refine wpAnyH_done (by kernel_rfl) ?_ _
     have HR8 := Lib.hid (HGX.out.trans (HC8.out.mono HGX.out.size))
     clear hk8
     go_wp2_with fail
     go_roundw
     case rel => exact ⟨j + 1, acc + q, by omega, by go_num, by go_num, HTK.out, HR8.out⟩
     case measure => simp [intOf]; omega
    ·obtain rfl : sl = j := by omega
     have hln : decide ((sl : Int) < (sl : Int)) = false := by simp
     have hfin : acc = CN := by
      have h1 := hal.out
      rw [List.take_of_length_le (by rw [HLEN.out]; exact Nat.le_refl _), hca.out] at h1
      exact h1.symm
     have HFIN := Lib.hid hfin
     clear hfin
     go_wp2_with fail
     go_ret
     exact ⟨by rw [HFIN.out]; rfl, HB.out.trans (hgr.out.mono HB.out.size)⟩
set_option maxRecDepth 100000 in
set_option maxHeartbeats 2500000 in
theorem cnt_cnt (RN : ByteArray → Bool) (Bc : Nat) (p : Int → Bool) (t : Tm) (l s : Value) (w : World) (his : IsC w 53 #[.pointer (some ⟨Bc, 0, none⟩)] p) (hr : rightT RN 4 t 1125899906842624 = true) (ht : TmP w (fun _ => True) t l s) :
  Calls Tryz.prog 48 #[tv t l s, .func (.func 53) #[] #[.pointer (some ⟨Bc, 0, none⟩)]] w (Ret w (.int .i64 (cntT p t 0 : Nat))) := by
 have HIS := Lib.hid his
 have HRT := Lib.hid (rightT_ok hr)
 clear his hr
 obtain ⟨⟨la, ll, lc, rfl⟩, sa, sl, sc, rfl⟩ := tmP_slices ht
 have HTT := Lib.hid ht
 obtain ⟨k, hk⟩ : ∃ k, tkOf t = k := ⟨_, rfl⟩
 obtain ⟨n, hn⟩ : ∃ n, tnOf t = n := ⟨_, rfl⟩
 obtain ⟨m, hmm⟩ : ∃ m, tmOf t = m := ⟨_, rfl⟩
 dsimp only [tv]
 rw [hk, hn, hmm]
 have HK := Lib.hid hk
 have HNN := Lib.hid hn
 have HMM := Lib.hid hmm
 clear hk hn hmm ht
 go_enter Tryz.func48, Tryz.ntmps48
 go_wp2_with fail
 have z1 : (w.alloc (.cells #[.int .i64 k, .int .i64 n, .string m, .slice la ll lc, .slice sa sl sc] 25)).heap.size = w.heap.size + 1 := by simp
 have r0 : (w.alloc (.cells #[.int .i64 k, .int .i64 n, .string m, .slice la ll lc, .slice sa sl sc] 25)).heap[w.heap.size]? = some (Obj.cells #[.int .i64 k, .int .i64 n, .string m, .slice la ll lc, .slice sa sl sc] 25 (0, 0)) := by
  have := heap_alloc_new w (.cells #[.int .i64 k, .int .i64 n, .string m, .slice la ll lc, .slice sa sl sc] 25)
  exact this
 have HB := Lib.hid (below_lit w (.cells #[.int .i64 k, .int .i64 n, .string m, .slice la ll lc, .slice sa sl sc] 25))
 have HR0 := Lib.hid (r0)
 clear r0
 generalize (w.alloc (.cells #[.int .i64 k, .int .i64 n, .string m, .slice la ll lc, .slice sa sl sc] 25)) = W at *
 have HZ := Lib.hid z1
 clear z1
 have hcall := cntIn_cnt RN w Bc p HIS (tnodes t) t 0 1125899906842624 (.slice la ll lc) (.slice sa sl sc) W (Nat.le_refl _) (by have := HRT.out.2.1; omega) (by have := HRT.out.2.1; omega) (by have := HRT.out.2.2; rwa [show min (1125899906842624 : Int) 1125899906842624 = 1125899906842624 by omega] at this) (by have := HRT.out.2.1; omega) (tmP_below HB.out HTT.out) HB.out
 dsimp only [tv] at hcall
 rw [HK.out, HNN.out, HMM.out] at hcall
 refine hcall.mono ?_
 clear hcall
 rintro e w2 ⟨rfl, hb2⟩
 have HB2 := Lib.hid (HB.out.trans (hb2.mono HB.out.size))
 clear hb2
 go_wp2_with fail
 go_ret
 exact ⟨rfl, HB2.out⟩
end Bnd
end Go.Proofs.YteomfakbbcpckaaGreatDoor
namespace Go.Proofs.YteomfakbbcpckaaGreatDoor
open Go.RowKit
open Lvl
open Trm
namespace Bnd
set_option maxRecDepth 100000 in
set_option maxHeartbeats 2500000 in
theorem is_low (w0 : World) (Bc : Nat) (z : Int) (hc : w0.cell? ⟨Bc, 0, none⟩ = some (.int .i64 z)) : IsC w0 47 #[.pointer (some ⟨Bc, 0, none⟩)] (fun n => decide (n < z)) := by
 intro w1 n hb
 have c0 := (hb.cell (p := ⟨Bc, 0, none⟩) (World.block_lt_of_cell? w0 ⟨Bc, 0, none⟩ hc)).trans hc
 clear hc
 show Calls Tryz.prog 47 #[.int .i64 n, .pointer (some ⟨Bc, 0, none⟩)] w1 _
 go_enter Tryz.func47, Tryz.ntmps47
 go_wp2_with fail
 go_ret
 exact ⟨rfl, Below.refl _ _⟩
set_option maxRecDepth 100000 in
set_option maxHeartbeats 2500000 in
theorem cntIn_low (RN : ByteArray → Bool) (w0 : World) (Bc : Nat) (p : Int → Bool) (HIS : Hid (IsC w0 47 #[.pointer (some ⟨Bc, 0, none⟩)] p)) : ∀ (N : Nat) (t : Tm) (d : Nat) (K : Int) (l s : Value) (w : World), tnodes t ≤ N → d + N ≤ 1000000 → N ≤ 100000 → okT RN (rightB 4) t K = true → K + N ≤ 2251799813685248 → TmP w (fun _ => True) t l s → Below w0.heap.size w0 w →
  Calls Tryz.prog 70 #[tv t l s, .int .i64 d, .func (.func 47) #[] #[.pointer (some ⟨Bc, 0, none⟩)]] w (Ret w (.int .i64 (cntT p t d : Nat))) := by
 intro N
 induction N with
 | zero => intro t _ _ _ _ _ h; have := tnodes_pos t; omega
 | succ N ih =>
 intro t d K l s w hN hd hN6 hok hK ht hb0
 obtain ⟨⟨la, ll, lc, rfl⟩, sa, sl, sc, rfl⟩ := tmP_slices ht
 cases t with
 | mk k n m ls ts =>
 rw [TmP] at ht
 obtain ⟨hls, A', len', cap', e9, hlen, hlc', hl47, hnone, hts⟩ := ht
 cases e9
 obtain ⟨hno, hvar⟩ := ok_node hok
 rw [okT, Bool.and_eq_true] at hok
 have IH := Lib.hid ih
 have HTS := Lib.hid hts
 have HLEN := Lib.hid hlen
 have HOK := Lib.hid hok.2
 have HVAR := Lib.hid hvar
 have HB0 := Lib.hid hb0
 have HTN : Hid (tnodesL ts ≤ N) := by
  rw [tnodes] at hN
  have : tnodesL ts ≤ N := by omega
  exact this
 have hn1 : k = 1 → -4503599627370496 ≤ n ∧ n ≤ 4503599627370496 := fun e => by have := (hvar e).2; omega
 have HN1 := Lib.hid hn1
 obtain ⟨b, hb⟩ : ∃ b, decide (k = 1 ∧ (d : Int) ≤ n) = b := ⟨_, rfl⟩
 obtain ⟨r, hr⟩ : ∃ r, (if b = true then n - d else 0) = r := ⟨_, rfl⟩
 have HBR := Lib.hid (And.intro hb hr)
 obtain ⟨CN, hCN⟩ : ∃ c, cntT p (.mk k n m ls ts) d = c := ⟨_, rfl⟩
 have HCN := Lib.hid hCN
 rw [hCN]
 clear hts hlen hls hN ih hok hno hvar hb0 hn1 hb hr hCN
 show Calls Tryz.prog 70 #[.agg #[.int .i64 k, .int .i64 n, .string m, .slice la ll lc, .slice sa sl sc], .int .i64 d, .func (.func 47) #[] #[.pointer (some ⟨Bc, 0, none⟩)]] w (Ret w (.int .i64 CN))
 go_enter Tryz.func70, Tryz.ntmps70
 go_wp2_with fail
 have z1 : (w.alloc (.cells #[.int .i64 k, .int .i64 n, .string m, .slice la ll lc, .slice sa sl sc] 25)).heap.size = w.heap.size + 1 := by simp
 have r0 : (w.alloc (.cells #[.int .i64 k, .int .i64 n, .string m, .slice la ll lc, .slice sa sl sc] 25)).heap[w.heap.size]? = some (Obj.cells #[.int .i64 k, .int .i64 n, .string m, .slice la ll lc, .slice sa sl sc] 25 (0, 0)) := by
  have := heap_alloc_new w (.cells #[.int .i64 k, .int .i64 n, .string m, .slice la ll lc, .slice sa sl sc] 25)
  exact this
 have HB := Lib.hid (below_lit w (.cells #[.int .i64 k, .int .i64 n, .string m, .slice la ll lc, .slice sa sl sc] 25))
 have HR0 := Lib.hid (r0)
 clear r0
 generalize (w.alloc (.cells #[.int .i64 k, .int .i64 n, .string m, .slice la ll lc, .slice sa sl sc] 25)) = W at *
 have HZ := Lib.hid z1
 clear z1
 have hz := HZ.out
 have HW0 := Lib.hid (HB0.out.trans (HB.out.mono HB0.out.size))
 have hk : Hid (∀ W', Below W.heap.size W W' → W'.heap[w.heap.size]? = some (Obj.cells #[.int .i64 k, .int .i64 n, .string m, .slice la ll lc, .slice sa sl sc] 25 (0, 0))) := fun W' h => (h.block w.heap.size (by omega)).trans HR0.out
 clear HR0
 refine (lloose_is k n m la ll lc sa sl sc d W HN1.out (by omega) b HBR.out.1 r HBR.out.2).mono ?_
 rintro e v2 ⟨rfl, hb2⟩
 have Hv2 := Lib.hid hb2
 clear hb2
 cases b with
 | false =>
  have HNOT : Hid (¬ (k = 1 ∧ (d : Int) ≤ n ∧ p (n - d) = true)) := by
   have : ¬ (k = 1 ∧ (d : Int) ≤ n ∧ p (n - d) = true) := fun h => by
    have := HBR.out.1
    simp [h.1, h.2.1] at this
   exact this
  have hca : Hid (cntA p k ts.length ts 0 d = CN) := by
   have : cntA p k ts.length ts 0 d = CN := by
    rw [← HCN.out, cntT, if_neg]
    exact HNOT.out
   exact this
  obtain ⟨a0, a1, a2, a3, a4⟩ := five_cells (hk.out v2 Hv2.out)
  go_wp2_with fail
  go_loopw [9, 10, 11, 28] (fun c _ _ i wr => ∃ j acc : Nat, j ≤ sl ∧ i = .int .i64 j ∧ c = .int .i64 acc ∧ Hid (cntA p k ts.length (ts.take j) 0 d = acc) ∧ Hid (Below W.heap.size W wr)) (fun _ _ _ i _ => sl - (intOf i).toNat)
  case atStart => exact ⟨0, 0, Nat.zero_le _, rfl, rfl, by rw [List.take_zero, cntA]; exact rfl, Hv2.out⟩
  case round =>
   obtain ⟨j, acc, hj, rfl, rfl, hal, hgr⟩ := hrel
   have hac : acc ≤ 100000 := by
    have h1 := cntA_cut p k ts.length ts j d
    rw [hal.out] at h1
    have := HTN.out
    omega
   by_cases hlt : j < sl
   ·have hx1 : j < ts.length := by rw [HLEN.out]; exact hlt
    have hln : decide ((j : Int) < (sl : Int)) = true := by simp; omega
    obtain ⟨bk, o, l1, s1, eA, hbs, _, hc0, hc1, hc2, hc3, hc4, htm⟩ := tsP_get HTS.out j hx1
    subst eA
    obtain ⟨⟨xa, xl, xc, rfl⟩, ya, yl, yc, rfl⟩ := tmP_slices htm
    have HBr := Lib.hid (HB.out.trans (hgr.out.mono HB.out.size))
    have d0 := (HBr.out.cell (p := ⟨bk, _, none⟩) hbs).trans hc0
    have d1 := (HBr.out.cell (p := ⟨bk, _, none⟩) hbs).trans hc1
    have d2 := (HBr.out.cell (p := ⟨bk, _, none⟩) hbs).trans hc2
    have d3 := (HBr.out.cell (p := ⟨bk, _, none⟩) hbs).trans hc3
    have d4 := (HBr.out.cell (p := ⟨bk, _, none⟩) hbs).trans hc4
    obtain ⟨R, hR⟩ : ∃ R, bndP k ts.length j = R := ⟨_, rfl⟩
    have hR1' : R ≤ 1 := by rw [← hR]; exact bndP_le _ _ _
    have HRR : Hid (bndP k sl j = R) := by rw [← HLEN.out]; exact hR
    obtain ⟨dn, hdn⟩ : ∃ q, q = d + R := ⟨_, rfl⟩
    have hw1 : IntKind.i64.wrap ((d : Int) + (R : Int)) = (dn : Int) := (IntWalk.i64_in _ ⟨by omega, by omega⟩).trans (by omega)
    have htk := cntA_take p k ts.length hx1 d
    rw [hR, ← hdn, hal.out] at htk
    obtain ⟨q, hq⟩ : ∃ q, cntT p ts[j] dn = q := ⟨_, rfl⟩
    rw [hq] at htk
    have hq6 : q ≤ 100000 := by
     have h1 := cntT_le p ts[j] dn
     have h2 := tnodes_mem (List.getElem_mem hx1)
     have h3 := HTN.out
     omega
    have HTK := Lib.hid htk
    have hchild := ok_child HOK.out j hx1
    rw [Nat.zero_add] at hchild
    have hub : under k j K ≤ K + 1 := by unfold under; split <;> omega
    have hcall := fun (w' : World) (hw : Below w.heap.size w w') => IH.out ts[j] dn (under k j K) (.slice xa xl xc) (.slice ya yl yc) w' (Nat.le_trans (tnodes_mem (List.getElem_mem hx1)) HTN.out) (by omega) (by omega) hchild (by omega) (tmP_below hw htm) (HB0.out.trans (hw.mono HB0.out.size))
    rw [hq] at hcall
    have HCALL := Lib.hid hcall
    dsimp only [tv] at HCALL
    have q1 : (0 : Int) ≤ (j : Int) := by omega
    have q2 : (j : Int) < (sl : Int) := by omega
    have hw3 : IntKind.i64.wrap ((acc : Int) + (q : Int)) = (acc : Int) + (q : Int) := IntWalk.i64_in _ ⟨by omega, by omega⟩
    clear hcall htm hc0 hc1 hc2 hc3 hc4 hR hdn hq hchild htk
    generalize tkOf ts[j] = ka at *
    generalize tnOf ts[j] = na at *
    generalize tmOf ts[j] = ma at *
    have hbx := below_lit wr (.cells #[.int .i64 ka, .int .i64 na, .string ma, .slice xa xl xc, .slice ya yl yc] 25)
    have hrx := heap_alloc_new wr (.cells #[.int .i64 ka, .int .i64 na, .string ma, .slice xa xl xc, .slice ya yl yc] 25)
    have hsx : (wr.alloc (.cells #[.int .i64 ka, .int .i64 na, .string ma, .slice xa xl xc, .slice ya yl yc] 25)).heap.size = wr.heap.size + 1 := by simp
    have hr0 := hk.out wr hgr.out
    have hsr := hgr.out.size
    have HGX := Lib.hid (hgr.out.trans (hbx.mono hgr.out.size))
    have hk8 : Hid (∀ W', Below (wr.alloc (.cells #[.int .i64 ka, .int .i64 na, .string ma, .slice xa xl xc, .slice ya yl yc] 25)).heap.size (wr.alloc (.cells #[.int .i64 ka, .int .i64 na, .string ma, .slice xa xl xc, .slice ya yl yc] 25)) W' → W'.cell? ⟨wr.heap.size, 0, none⟩ = some (.int .i64 ka) ∧ W'.cell? ⟨wr.heap.size, 1, none⟩ = some (.int .i64 na) ∧ W'.cell? ⟨wr.heap.size, 2, none⟩ = some (.string ma) ∧ W'.cell? ⟨wr.heap.size, 3, none⟩ = some (.slice xa xl xc) ∧ W'.cell? ⟨wr.heap.size, 4, none⟩ = some (.slice ya yl yc) ∧ W'.cell? ⟨w.heap.size, 0, none⟩ = some (.int .i64 k) ∧ W'.cell? ⟨w.heap.size, 1, none⟩ = some (.int .i64 n) ∧ W'.cell? ⟨w.heap.size, 2, none⟩ = some (.string m) ∧ W'.cell? ⟨w.heap.size, 3, none⟩ = some (.slice la ll lc) ∧ W'.cell? ⟨w.heap.size, 4, none⟩ = some (.slice (some ⟨bk, o, none⟩) sl sc)) := fun W' h => by
     obtain ⟨e0, e1, e2, e3, e4⟩ := five_cells ((h.block wr.heap.size (by omega)).trans hrx)
     obtain ⟨a0, a1, a2, a3, a4⟩ := five_cells ((h.block w.heap.size (by omega)).trans ((hbx.block w.heap.size (by omega)).trans hr0))
     exact ⟨e0, e1, e2, e3, e4, a0, a1, a2, a3, a4⟩
    have HW7 := Lib.hid (HBr.out.trans (hbx.mono HBr.out.size))
    go_upto_region 8 with fail
    generalize wr.alloc (.cells #[.int .i64 ka, .int .i64 na, .string ma, .slice xa xl xc, .slice ya yl yc] 25) = W7 at *
    clear d0 d1 d2 d3 d4 hrx hr0 hbx
    refine wp_region_held_drew (S := fun W' => W'.cell? ⟨wr.heap.size, 0, none⟩ = some (.int .i64 ka) ∧ W'.cell? ⟨wr.heap.size, 1, none⟩ = some (.int .i64 na) ∧ W'.cell? ⟨wr.heap.size, 2, none⟩ = some (.string ma) ∧ W'.cell? ⟨wr.heap.size, 3, none⟩ = some (.slice xa xl xc) ∧ W'.cell? ⟨wr.heap.size, 4, none⟩ = some (.slice ya yl yc) ∧ W'.cell? ⟨w.heap.size, 0, none⟩ = some (.int .i64 k) ∧ W'.cell? ⟨w.heap.size, 1, none⟩ = some (.int .i64 n) ∧ W'.cell? ⟨w.heap.size, 2, none⟩ = some (.string m) ∧ W'.cell? ⟨w.heap.size, 3, none⟩ = some (.slice la ll lc) ∧ W'.cell? ⟨w.heap.size, 4, none⟩ = some (.slice (some ⟨bk, o, none⟩) sl sc)) (by kernel_rfl) (hk8.out _ ((Below.refl _ _).drew)) (fun hHeld => ?_)
    refine take_in (i := 0) (v := ?_) rfl (by kernel_rfl) (by kernel_rfl) (by kernel_rfl) (fun _ _ _ h => h) (by rfl) ?_ hHeld ?_
    rotate_left
    ·intro w hSw
     (try dsimp only at hSw)
     go_simp
     try with_reducible rfl
    try simp only [Act.put, s1q, s2q, s3q]
    refine take_in (i := 1) (v := ?_) rfl (by kernel_rfl) (by kernel_rfl) (by kernel_rfl) (fun _ _ _ h => h) (by rfl) ?_ hHeld ?_
    rotate_left
    ·intro w hSw
     (try dsimp only at hSw)
     go_simp
     try with_reducible rfl
    try simp only [Act.put, s1q, s2q, s3q]
    refine take_in (i := 2) (v := ?_) rfl (by kernel_rfl) (by kernel_rfl) (by kernel_rfl) (fun _ _ _ h => h) (by rfl) ?_ hHeld ?_
    rotate_left
    ·intro w hSw
     (try dsimp only at hSw)
     go_simp
     try with_reducible rfl
    try simp only [Act.put, s1q, s2q, s3q]
    refine take_in (i := 3) (v := ?_) rfl (by kernel_rfl) (by kernel_rfl) (by kernel_rfl) (fun _ _ _ h => h) (by rfl) ?_ hHeld ?_
    rotate_left
    ·intro w hSw
     (try dsimp only at hSw)
     go_simp
     try with_reducible rfl
    try simp only [Act.put, s1q, s2q, s3q]
    refine take_in (i := 4) (v := ?_) rfl (by kernel_rfl) (by kernel_rfl) (by kernel_rfl) (fun _ _ _ h => h) (by rfl) ?_ hHeld ?_
    rotate_left
    ·intro w hSw
     (try dsimp only at hSw)
     go_simp
     try with_reducible rfl
    try simp only [Act.put, s1q, s2q, s3q]
    refine take_in (i := 7) (v := ?_) rfl (by kernel_rfl) (by kernel_rfl) (by kernel_rfl) (fun _ _ _ h => h) (by rfl) ?_ hHeld ?_
    rotate_left
    ·intro w hSw
     (try dsimp only at hSw)
     go_simp
     try with_reducible rfl
    try simp only [Act.put, s1q, s2q, s3q]
    refine call_in (i := 5) rfl (by kernel_rfl) (fun K hK => ?_)
    clear hHeld
    go_simp
    go_at_call 97
    refine (bbinds_is k n m _ (some ⟨bk, o, none⟩) sl sc j _ hl47 la ll lc rfl).mono ?_
    rintro e w5 ⟨rfl, hb5⟩
    rw [HRR.out]
    have HC5 := Lib.hid ((Below.refl W7.heap.size W7).drew.trans hb5)
    clear hb5
    try (go_wp2_with fail)
    refine hK.out _ _ (hk8.out _ HC5.out) (fun hHeld => ?_)
    clear hK K
    try simp only [Act.put, s1q, s2q, s3q]
    refine take_in (i := 6) (v := ?_) rfl (by kernel_rfl) (by kernel_rfl) (by kernel_rfl) (fun _ _ _ h => h) (by rfl) ?_ hHeld ?_
    rotate_left
    ·intro w hSw
     (try dsimp only at hSw)
     go_simp
     try with_reducible rfl
    try simp only [Act.put, s1q, s2q, s3q]
    refine call_in (i := 8) rfl (by kernel_rfl) (fun K hK => ?_)
    clear hHeld
    go_simp
    go_at_call 70
    try rw [show (d : Int) + (R : Int) = (dn : Int) by omega]
    refine (HCALL.out w5 (HW7.out.trans (HC5.out.mono HW7.out.size))).mono ?_
    rintro e w8 ⟨rfl, hb8⟩
    have HC8 := Lib.hid (HC5.out.trans (hb8.mono HC5.out.size))
    clear hb8
    try (go_wp2_with fail)
    refine hK.out _ _ (hk8.out _ HC8.out) (fun hHeld => ?_)
    clear hK K
    try simp only [Act.put, s1q, s2q, s3q]
    refine take_in (i := 9) (v := ?_) rfl (by kernel_rfl) (by kernel_rfl) (by kernel_rfl) (fun _ _ _ h => h) (by rfl) ?_ hHeld ?_
    rotate_left
    ·intro w hSw
     (try dsimp only at hSw)
     go_simp
     try with_reducible rfl
    try simp only [Act.put, s1q, s2q, s3q]
    refine take_in (i := 10) (v := ?_) rfl (by kernel_rfl) (by kernel_rfl) (by kernel_rfl) (fun _ _ _ h => h) (by rfl) ?_ hHeld ?_
    rotate_left
    ·intro w hSw
     (try dsimp only at hSw)
     go_simp
     try with_reducible rfl
    try simp only [Act.put, s1q, s2q, s3q]
    refine wpAnyH_done (by kernel_rfl) ?_ _
    have HR8 := Lib.hid (HGX.out.trans (HC8.out.mono HGX.out.size))
    clear hk8
    go_wp2_with fail
    go_roundw
    case rel => exact ⟨j + 1, acc + q, by omega, by go_num, by go_num, HTK.out, HR8.out⟩
    case measure => simp [intOf]; omega
   ·obtain rfl : sl = j := by omega
    have hln : decide ((sl : Int) < (sl : Int)) = false := by simp
    have hfin : acc = CN := by
     have h1 := hal.out
     rw [List.take_of_length_le (by rw [HLEN.out]; exact Nat.le_refl _), hca.out] at h1
     exact h1.symm
    have HFIN := Lib.hid hfin
    clear hfin
    go_wp2_with fail
    go_ret
    exact ⟨by rw [HFIN.out]; rfl, HB.out.trans (hgr.out.mono HB.out.size)⟩
 | true =>
  have hkn : k = 1 ∧ (d : Int) ≤ n := of_decide_eq_true HBR.out.1
  have hrr : n - d = r := by have := HBR.out.2; rw [if_pos rfl] at this; exact this
  have HKN := Lib.hid hkn
  have HRR0 := Lib.hid hrr
  obtain ⟨pb, hpb⟩ : ∃ q, p r = q := ⟨_, rfl⟩
  have hcall := HIS.out v2 r (HW0.out.trans (Hv2.out.mono HW0.out.size))
  rw [hpb] at hcall
  have HCALLI : Hid (Calls Tryz.prog 47 #[.int .i64 r, .pointer (some ⟨Bc, 0, none⟩)] v2 (Ret v2 (.bool pb))) := hcall
  have HPB := Lib.hid hpb
  clear hkn hrr hpb hcall
  go_wp2_with fail
  refine HCALLI.out.mono ?_
  rintro e v3 ⟨rfl, hb3⟩
  have Hv3 := Lib.hid (Hv2.out.trans (hb3.mono Hv2.out.size))
  clear hb3 HCALLI
  cases pb with
  | true =>
   have h1 : CN = 1 := by rw [← HCN.out, cntT, if_pos ⟨HKN.out.1, HKN.out.2, by rw [HRR0.out]; exact HPB.out⟩]
   have H1 := Lib.hid h1
   clear h1
   go_wp2_with fail
   go_ret
   exact ⟨by rw [H1.out]; rfl, HB.out.trans (Hv3.out.mono HB.out.size)⟩
  | false =>
   have HNOT : Hid (¬ (k = 1 ∧ (d : Int) ≤ n ∧ p (n - d) = true)) := by
    have : ¬ (k = 1 ∧ (d : Int) ≤ n ∧ p (n - d) = true) := fun h => by
     have h1 := h.2.2
     rw [HRR0.out, HPB.out] at h1
     cases h1
    exact this
   have hca : Hid (cntA p k ts.length ts 0 d = CN) := by
    have : cntA p k ts.length ts 0 d = CN := by
     rw [← HCN.out, cntT, if_neg]
     exact HNOT.out
    exact this
   obtain ⟨a0, a1, a2, a3, a4⟩ := five_cells (hk.out v3 Hv3.out)
   go_wp2_with fail
   go_loopw [9, 10, 11, 28] (fun c _ _ i wr => ∃ j acc : Nat, j ≤ sl ∧ i = .int .i64 j ∧ c = .int .i64 acc ∧ Hid (cntA p k ts.length (ts.take j) 0 d = acc) ∧ Hid (Below W.heap.size W wr)) (fun _ _ _ i _ => sl - (intOf i).toNat)
   case atStart => exact ⟨0, 0, Nat.zero_le _, rfl, rfl, by rw [List.take_zero, cntA]; exact rfl, Hv3.out⟩
   case round =>
    obtain ⟨j, acc, hj, rfl, rfl, hal, hgr⟩ := hrel
    have hac : acc ≤ 100000 := by
     have h1 := cntA_cut p k ts.length ts j d
     rw [hal.out] at h1
     have := HTN.out
     omega
    by_cases hlt : j < sl
    ·have hx1 : j < ts.length := by rw [HLEN.out]; exact hlt
     have hln : decide ((j : Int) < (sl : Int)) = true := by simp; omega
     obtain ⟨bk, o, l1, s1, eA, hbs, _, hc0, hc1, hc2, hc3, hc4, htm⟩ := tsP_get HTS.out j hx1
     subst eA
     obtain ⟨⟨xa, xl, xc, rfl⟩, ya, yl, yc, rfl⟩ := tmP_slices htm
     have HBr := Lib.hid (HB.out.trans (hgr.out.mono HB.out.size))
     have d0 := (HBr.out.cell (p := ⟨bk, _, none⟩) hbs).trans hc0
     have d1 := (HBr.out.cell (p := ⟨bk, _, none⟩) hbs).trans hc1
     have d2 := (HBr.out.cell (p := ⟨bk, _, none⟩) hbs).trans hc2
     have d3 := (HBr.out.cell (p := ⟨bk, _, none⟩) hbs).trans hc3
     have d4 := (HBr.out.cell (p := ⟨bk, _, none⟩) hbs).trans hc4
     obtain ⟨R, hR⟩ : ∃ R, bndP k ts.length j = R := ⟨_, rfl⟩
     have hR1' : R ≤ 1 := by rw [← hR]; exact bndP_le _ _ _
     have HRR : Hid (bndP k sl j = R) := by rw [← HLEN.out]; exact hR
     obtain ⟨dn, hdn⟩ : ∃ q, q = d + R := ⟨_, rfl⟩
     have hw1 : IntKind.i64.wrap ((d : Int) + (R : Int)) = (dn : Int) := (IntWalk.i64_in _ ⟨by omega, by omega⟩).trans (by omega)
     have htk := cntA_take p k ts.length hx1 d
     rw [hR, ← hdn, hal.out] at htk
     obtain ⟨q, hq⟩ : ∃ q, cntT p ts[j] dn = q := ⟨_, rfl⟩
     rw [hq] at htk
     have hq6 : q ≤ 100000 := by
      have h1 := cntT_le p ts[j] dn
      have h2 := tnodes_mem (List.getElem_mem hx1)
      have h3 := HTN.out
      omega
     have HTK := Lib.hid htk
     have hchild := ok_child HOK.out j hx1
     rw [Nat.zero_add] at hchild
     have hub : under k j K ≤ K + 1 := by unfold under; split <;> omega
     have hcall := fun (w' : World) (hw : Below w.heap.size w w') => IH.out ts[j] dn (under k j K) (.slice xa xl xc) (.slice ya yl yc) w' (Nat.le_trans (tnodes_mem (List.getElem_mem hx1)) HTN.out) (by omega) (by omega) hchild (by omega) (tmP_below hw htm) (HB0.out.trans (hw.mono HB0.out.size))
     rw [hq] at hcall
     have HCALL := Lib.hid hcall
     dsimp only [tv] at HCALL
     have q1 : (0 : Int) ≤ (j : Int) := by omega
     have q2 : (j : Int) < (sl : Int) := by omega
     have hw3 : IntKind.i64.wrap ((acc : Int) + (q : Int)) = (acc : Int) + (q : Int) := IntWalk.i64_in _ ⟨by omega, by omega⟩
     clear hcall htm hc0 hc1 hc2 hc3 hc4 hR hdn hq hchild htk
     generalize tkOf ts[j] = ka at *
     generalize tnOf ts[j] = na at *
     generalize tmOf ts[j] = ma at *
     have hbx := below_lit wr (.cells #[.int .i64 ka, .int .i64 na, .string ma, .slice xa xl xc, .slice ya yl yc] 25)
     have hrx := heap_alloc_new wr (.cells #[.int .i64 ka, .int .i64 na, .string ma, .slice xa xl xc, .slice ya yl yc] 25)
     have hsx : (wr.alloc (.cells #[.int .i64 ka, .int .i64 na, .string ma, .slice xa xl xc, .slice ya yl yc] 25)).heap.size = wr.heap.size + 1 := by simp
     have hr0 := hk.out wr hgr.out
     have hsr := hgr.out.size
     have HGX := Lib.hid (hgr.out.trans (hbx.mono hgr.out.size))
     have hk8 : Hid (∀ W', Below (wr.alloc (.cells #[.int .i64 ka, .int .i64 na, .string ma, .slice xa xl xc, .slice ya yl yc] 25)).heap.size (wr.alloc (.cells #[.int .i64 ka, .int .i64 na, .string ma, .slice xa xl xc, .slice ya yl yc] 25)) W' → W'.cell? ⟨wr.heap.size, 0, none⟩ = some (.int .i64 ka) ∧ W'.cell? ⟨wr.heap.size, 1, none⟩ = some (.int .i64 na) ∧ W'.cell? ⟨wr.heap.size, 2, none⟩ = some (.string ma) ∧ W'.cell? ⟨wr.heap.size, 3, none⟩ = some (.slice xa xl xc) ∧ W'.cell? ⟨wr.heap.size, 4, none⟩ = some (.slice ya yl yc) ∧ W'.cell? ⟨w.heap.size, 0, none⟩ = some (.int .i64 k) ∧ W'.cell? ⟨w.heap.size, 1, none⟩ = some (.int .i64 n) ∧ W'.cell? ⟨w.heap.size, 2, none⟩ = some (.string m) ∧ W'.cell? ⟨w.heap.size, 3, none⟩ = some (.slice la ll lc) ∧ W'.cell? ⟨w.heap.size, 4, none⟩ = some (.slice (some ⟨bk, o, none⟩) sl sc)) := fun W' h => by
      obtain ⟨e0, e1, e2, e3, e4⟩ := five_cells ((h.block wr.heap.size (by omega)).trans hrx)
      obtain ⟨a0, a1, a2, a3, a4⟩ := five_cells ((h.block w.heap.size (by omega)).trans ((hbx.block w.heap.size (by omega)).trans hr0))
      exact ⟨e0, e1, e2, e3, e4, a0, a1, a2, a3, a4⟩
     have HW7 := Lib.hid (HBr.out.trans (hbx.mono HBr.out.size))
     go_upto_region 8 with fail
     generalize wr.alloc (.cells #[.int .i64 ka, .int .i64 na, .string ma, .slice xa xl xc, .slice ya yl yc] 25) = W7 at *
     clear d0 d1 d2 d3 d4 hrx hr0 hbx
     refine wp_region_held_drew (S := fun W' => W'.cell? ⟨wr.heap.size, 0, none⟩ = some (.int .i64 ka) ∧ W'.cell? ⟨wr.heap.size, 1, none⟩ = some (.int .i64 na) ∧ W'.cell? ⟨wr.heap.size, 2, none⟩ = some (.string ma) ∧ W'.cell? ⟨wr.heap.size, 3, none⟩ = some (.slice xa xl xc) ∧ W'.cell? ⟨wr.heap.size, 4, none⟩ = some (.slice ya yl yc) ∧ W'.cell? ⟨w.heap.size, 0, none⟩ = some (.int .i64 k) ∧ W'.cell? ⟨w.heap.size, 1, none⟩ = some (.int .i64 n) ∧ W'.cell? ⟨w.heap.size, 2, none⟩ = some (.string m) ∧ W'.cell? ⟨w.heap.size, 3, none⟩ = some (.slice la ll lc) ∧ W'.cell? ⟨w.heap.size, 4, none⟩ = some (.slice (some ⟨bk, o, none⟩) sl sc)) (by kernel_rfl) (hk8.out _ ((Below.refl _ _).drew)) (fun hHeld => ?_)
     refine take_in (i := 0) (v := ?_) rfl (by kernel_rfl) (by kernel_rfl) (by kernel_rfl) (fun _ _ _ h => h) (by rfl) ?_ hHeld ?_
     rotate_left
     ·intro w hSw
      (try dsimp only at hSw)
      go_simp
      try with_reducible rfl
     try simp only [Act.put, s1q, s2q, s3q]
     refine take_in (i := 1) (v := ?_) rfl (by kernel_rfl) (by kernel_rfl) (by kernel_rfl) (fun _ _ _ h => h) (by rfl) ?_ hHeld ?_
     rotate_left
     ·intro w hSw
      (try dsimp only at hSw)
      go_simp
      try with_reducible rfl
     try simp only [Act.put, s1q, s2q, s3q]
     refine take_in (i := 2) (v := ?_) rfl (by kernel_rfl) (by kernel_rfl) (by kernel_rfl) (fun _ _ _ h => h) (by rfl) ?_ hHeld ?_
     rotate_left
     ·intro w hSw
      (try dsimp only at hSw)
      go_simp
      try with_reducible rfl
     try simp only [Act.put, s1q, s2q, s3q]
     refine take_in (i := 3) (v := ?_) rfl (by kernel_rfl) (by kernel_rfl) (by kernel_rfl) (fun _ _ _ h => h) (by rfl) ?_ hHeld ?_
     rotate_left
     ·intro w hSw
      (try dsimp only at hSw)
      go_simp
      try with_reducible rfl
     try simp only [Act.put, s1q, s2q, s3q]
     refine take_in (i := 4) (v := ?_) rfl (by kernel_rfl) (by kernel_rfl) (by kernel_rfl) (fun _ _ _ h => h) (by rfl) ?_ hHeld ?_
     rotate_left
     ·intro w hSw
      (try dsimp only at hSw)
      go_simp
      try with_reducible rfl
     try simp only [Act.put, s1q, s2q, s3q]
     refine take_in (i := 7) (v := ?_) rfl (by kernel_rfl) (by kernel_rfl) (by kernel_rfl) (fun _ _ _ h => h) (by rfl) ?_ hHeld ?_
     rotate_left
     ·intro w hSw
      (try dsimp only at hSw)
      go_simp
      try with_reducible rfl
     try simp only [Act.put, s1q, s2q, s3q]
     refine call_in (i := 5) rfl (by kernel_rfl) (fun K hK => ?_)
     clear hHeld
     go_simp
     go_at_call 97
     refine (bbinds_is k n m _ (some ⟨bk, o, none⟩) sl sc j _ hl47 la ll lc rfl).mono ?_
     rintro e w5 ⟨rfl, hb5⟩
     rw [HRR.out]
     have HC5 := Lib.hid ((Below.refl W7.heap.size W7).drew.trans hb5)
     clear hb5
     try (go_wp2_with fail)
     refine hK.out _ _ (hk8.out _ HC5.out) (fun hHeld => ?_)
     clear hK K
     try simp only [Act.put, s1q, s2q, s3q]
     refine take_in (i := 6) (v := ?_) rfl (by kernel_rfl) (by kernel_rfl) (by kernel_rfl) (fun _ _ _ h => h) (by rfl) ?_ hHeld ?_
     rotate_left
     ·intro w hSw
      (try dsimp only at hSw)
      go_simp
      try with_reducible rfl
     try simp only [Act.put, s1q, s2q, s3q]
     refine call_in (i := 8) rfl (by kernel_rfl) (fun K hK => ?_)
     clear hHeld
     go_simp
     go_at_call 70
     try rw [show (d : Int) + (R : Int) = (dn : Int) by omega]
     refine (HCALL.out w5 (HW7.out.trans (HC5.out.mono HW7.out.size))).mono ?_
     rintro e w8 ⟨rfl, hb8⟩
     have HC8 := Lib.hid (HC5.out.trans (hb8.mono HC5.out.size))
     clear hb8
     try (go_wp2_with fail)
     refine hK.out _ _ (hk8.out _ HC8.out) (fun hHeld => ?_)
     clear hK K
     try simp only [Act.put, s1q, s2q, s3q]
     refine take_in (i := 9) (v := ?_) rfl (by kernel_rfl) (by kernel_rfl) (by kernel_rfl) (fun _ _ _ h => h) (by rfl) ?_ hHeld ?_
     rotate_left
     ·intro w hSw
      (try dsimp only at hSw)
      go_simp
      try with_reducible rfl
     try simp only [Act.put, s1q, s2q, s3q]
     refine take_in (i := 10) (v := ?_) rfl (by kernel_rfl) (by kernel_rfl) (by kernel_rfl) (fun _ _ _ h => h) (by rfl) ?_ hHeld ?_
     rotate_left
     ·intro w hSw
      (try dsimp only at hSw)
      go_simp
      try with_reducible rfl
     try simp only [Act.put, s1q, s2q, s3q]
     refine wpAnyH_done (by kernel_rfl) ?_ _
     have HR8 := Lib.hid (HGX.out.trans (HC8.out.mono HGX.out.size))
     clear hk8
     go_wp2_with fail
     go_roundw
     case rel => exact ⟨j + 1, acc + q, by omega, by go_num, by go_num, HTK.out, HR8.out⟩
     case measure => simp [intOf]; omega
    ·obtain rfl : sl = j := by omega
     have hln : decide ((sl : Int) < (sl : Int)) = false := by simp
     have hfin : acc = CN := by
      have h1 := hal.out
      rw [List.take_of_length_le (by rw [HLEN.out]; exact Nat.le_refl _), hca.out] at h1
      exact h1.symm
     have HFIN := Lib.hid hfin
     clear hfin
     go_wp2_with fail
     go_ret
     exact ⟨by rw [HFIN.out]; rfl, HB.out.trans (hgr.out.mono HB.out.size)⟩
set_option maxRecDepth 100000 in
set_option maxHeartbeats 2500000 in
theorem cnt_low (RN : ByteArray → Bool) (Bc : Nat) (p : Int → Bool) (t : Tm) (l s : Value) (w : World) (his : IsC w 47 #[.pointer (some ⟨Bc, 0, none⟩)] p) (hr : rightT RN 4 t 1125899906842624 = true) (ht : TmP w (fun _ => True) t l s) :
  Calls Tryz.prog 48 #[tv t l s, .func (.func 47) #[] #[.pointer (some ⟨Bc, 0, none⟩)]] w (Ret w (.int .i64 (cntT p t 0 : Nat))) := by
 have HIS := Lib.hid his
 have HRT := Lib.hid (rightT_ok hr)
 clear his hr
 obtain ⟨⟨la, ll, lc, rfl⟩, sa, sl, sc, rfl⟩ := tmP_slices ht
 have HTT := Lib.hid ht
 obtain ⟨k, hk⟩ : ∃ k, tkOf t = k := ⟨_, rfl⟩
 obtain ⟨n, hn⟩ : ∃ n, tnOf t = n := ⟨_, rfl⟩
 obtain ⟨m, hmm⟩ : ∃ m, tmOf t = m := ⟨_, rfl⟩
 dsimp only [tv]
 rw [hk, hn, hmm]
 have HK := Lib.hid hk
 have HNN := Lib.hid hn
 have HMM := Lib.hid hmm
 clear hk hn hmm ht
 go_enter Tryz.func48, Tryz.ntmps48
 go_wp2_with fail
 have z1 : (w.alloc (.cells #[.int .i64 k, .int .i64 n, .string m, .slice la ll lc, .slice sa sl sc] 25)).heap.size = w.heap.size + 1 := by simp
 have r0 : (w.alloc (.cells #[.int .i64 k, .int .i64 n, .string m, .slice la ll lc, .slice sa sl sc] 25)).heap[w.heap.size]? = some (Obj.cells #[.int .i64 k, .int .i64 n, .string m, .slice la ll lc, .slice sa sl sc] 25 (0, 0)) := by
  have := heap_alloc_new w (.cells #[.int .i64 k, .int .i64 n, .string m, .slice la ll lc, .slice sa sl sc] 25)
  exact this
 have HB := Lib.hid (below_lit w (.cells #[.int .i64 k, .int .i64 n, .string m, .slice la ll lc, .slice sa sl sc] 25))
 have HR0 := Lib.hid (r0)
 clear r0
 generalize (w.alloc (.cells #[.int .i64 k, .int .i64 n, .string m, .slice la ll lc, .slice sa sl sc] 25)) = W at *
 have HZ := Lib.hid z1
 clear z1
 have hcall := cntIn_low RN w Bc p HIS (tnodes t) t 0 1125899906842624 (.slice la ll lc) (.slice sa sl sc) W (Nat.le_refl _) (by have := HRT.out.2.1; omega) (by have := HRT.out.2.1; omega) (by have := HRT.out.2.2; rwa [show min (1125899906842624 : Int) 1125899906842624 = 1125899906842624 by omega] at this) (by have := HRT.out.2.1; omega) (tmP_below HB.out HTT.out) HB.out
 dsimp only [tv] at hcall
 rw [HK.out, HNN.out, HMM.out] at hcall
 refine hcall.mono ?_
 clear hcall
 rintro e w2 ⟨rfl, hb2⟩
 have HB2 := Lib.hid (HB.out.trans (hb2.mono HB.out.size))
 clear hb2
 go_wp2_with fail
 go_ret
 exact ⟨rfl, HB2.out⟩
end Bnd
end Go.Proofs.YteomfakbbcpckaaGreatDoor
namespace Go.Proofs.YteomfakbbcpckaaGreatDoor
open Lvl
open Trm
namespace Bnd
section
variable {RN : ByteArray → Bool} {RL : Lv → Bool}
def lfOk (RN : ByteArray → Bool) (RL : Lv → Bool) (l : Tm) : Prop := ∃ K : Int, okT RN RL l K = true ∧ ∃ k n m ls, l = .mk k n m ls []
theorem lf_leaves {t : Tm} {K : Int} (d : Nat) (h : okT RN RL t K = true) : allT (fun l _ => lfOk RN RL l) t d :=
 allT_mono (fun l e hl => ⟨_, hl.1, hl.2⟩) t d (allT_leaf t d (ok_leaves (K - d) t d (by rw [show K - (d : Int) + d = K by omega]; exact h)))
theorem lf_cases {l : Tm} (h : lfOk RN RL l) : (∃ n, 0 ≤ n ∧ l = tvr n) ∨ (∃ k n m ls, k ≠ 1 ∧ l = .mk k n m ls []) := by
 obtain ⟨K, hok, k, n, m, ls, rfl⟩ := h
 rcases ok_leaf hok with ⟨rfl, h0, _, rfl, rfl⟩ | ⟨rfl, _⟩ | ⟨rfl, _⟩
 ·exact .inl ⟨n, h0, rfl⟩
 ·exact .inr ⟨_, _, _, _, by decide, rfl⟩
 ·exact .inr ⟨_, _, _, _, by decide, rfl⟩
theorem subT_leaf (F : Tm → Nat → Tm) (k n : Int) (m : ByteArray) (ls : List Lv) (d : Nat) : subT F (.mk k n m ls []) d = F (.mk k n m ls []) d := by rw [subT, if_pos List.length_nil]
theorem raF_var (by' fr n : Int) (d : Nat) : raF by' fr (tvr n) d = if (d : Int) ≤ n ∧ fr ≤ n - d then tvr (n + by') else tvr n := by
 rw [raF]
 by_cases h : (d : Int) ≤ n ∧ fr ≤ n - d
 ·rw [if_pos h, if_pos ⟨rfl, h⟩]
 ·rw [if_neg h, if_neg (fun q => h q.2)]
theorem raF_oth {k : Int} (hk : k ≠ 1) (by' fr n : Int) (m : ByteArray) (ls : List Lv) (ts : List Tm) (d : Nat) : raF by' fr (.mk k n m ls ts) d = .mk k n m ls ts := by rw [raF, if_neg (fun q => hk q.1)]
theorem instF_var (args : List Tm) (n : Int) (d : Nat) : instF args (tvr n) d = if (d : Int) ≤ n then (if n - d < args.length then subT (raF d 0) (args.getD (args.length - 1 - (n - d).toNat) (tvr 0)) 0 else tvr (n - args.length)) else tvr n := by
 rw [instF]
 by_cases h : (d : Int) ≤ n
 ·rw [if_pos h, if_pos ⟨rfl, h⟩]
 ·rw [if_neg h, if_neg (fun q => h q.2)]
theorem instF_oth {k : Int} (hk : k ≠ 1) (args : List Tm) (n : Int) (m : ByteArray) (ls : List Lv) (ts : List Tm) (d : Nat) : instF args (.mk k n m ls ts) d = .mk k n m ls ts := by rw [instF, if_neg (fun q => hk q.1)]
theorem sub_two (F G H : Tm → Nat → Tm) {t : Tm} {K : Int} (h : okT RN RL t K = true) (hl : ∀ l e, lfOk RN RL l → subT G (F l e) e = H l e) : subT G (subT F t 0) 0 = subT H t 0 := by
 have := subT_sub F G 0 t 0
 rw [Nat.add_zero] at this
 rw [this]
 exact subT_congr t 0 (allT_mono (fun l e q => by rw [Nat.zero_add]; exact hl l e q) t 0 (lf_leaves 0 h))
theorem sub_back (F G : Tm → Nat → Tm) {t : Tm} {K : Int} (h : okT RN RL t K = true) (hl : ∀ l e, lfOk RN RL l → subT G (F l e) e = l) : subT G (subT F t 0) 0 = t := by
 rw [sub_two F G (fun l _ => l) h hl]
 exact subT_id t K 0 h (allT_mono (fun l e _ => rfl) t 0 (lf_leaves 0 h))
theorem inst_raise (args : List Tm) {t : Tm} {K : Int} (h : okT RN RL t K = true) : subT (instF args) (subT (raF args.length 0) t 0) 0 = t := by
 refine sub_back _ _ h fun l e hl => ?_
 rcases lf_cases hl with ⟨n, h0, rfl⟩ | ⟨k, n, m, ls, hk, rfl⟩
 ·rw [raF_var]
  by_cases he : (e : Int) ≤ n
  ·rw [if_pos ⟨he, by omega⟩, subT_leaf, instF_var, if_pos (by omega), if_neg (by omega), show n + (args.length : Int) - args.length = n by omega]
  ·rw [if_neg (fun q => he q.1), subT_leaf, instF_var, if_neg he]
 ·rw [raF_oth hk, subT_leaf, instF_oth hk]
theorem lower_raise (c : Int) (hc : 0 ≤ c) {t : Tm} {K : Int} (h : okT RN RL t K = true) : subT (raF (-c) c) (subT (raF c 0) t 0) 0 = t := by
 refine sub_back _ _ h fun l e hl => ?_
 rcases lf_cases hl with ⟨n, h0, rfl⟩ | ⟨k, n, m, ls, hk, rfl⟩
 ·rw [raF_var]
  by_cases he : (e : Int) ≤ n
  ·rw [if_pos ⟨he, by omega⟩, subT_leaf, raF_var, if_pos ⟨by omega, by omega⟩, show n + c + -c = n by omega]
  ·rw [if_neg (fun q => he q.1), subT_leaf, raF_var, if_neg (fun q => he q.1)]
 ·rw [raF_oth hk, subT_leaf, raF_oth hk]
theorem raise_raise (b c : Int) (hb : 0 ≤ b) {t : Tm} {K : Int} (h : okT RN RL t K = true) : subT (raF c 0) (subT (raF b 0) t 0) 0 = subT (raF (b + c) 0) t 0 := by
 refine sub_two _ _ _ h fun l e hl => ?_
 rcases lf_cases hl with ⟨n, h0, rfl⟩ | ⟨k, n, m, ls, hk, rfl⟩
 ·rw [raF_var, raF_var]
  by_cases he : (e : Int) ≤ n
  ·rw [if_pos ⟨he, by omega⟩, if_pos ⟨he, by omega⟩, subT_leaf, raF_var, if_pos ⟨by omega, by omega⟩, Int.add_assoc]
  ·rw [if_neg (fun q => he q.1), if_neg (fun q => he q.1), subT_leaf, raF_var, if_neg (fun q => he q.1)]
 ·rw [raF_oth hk, subT_leaf, raF_oth hk, raF_oth hk]
mutual
theorem cnt_raised (c : Int) (hc : 0 ≤ c) : ∀ (t : Tm) (K : Int) (d : Nat), okT RN RL t K = true → cntT (fun n => decide (n < c)) (subT (raF c 0) t d) d = 0
 | .mk k n m ls ts, K, d, h => by
  rw [subT]
  by_cases h0 : ts.length = 0
  ·obtain rfl : ts = [] := List.length_eq_zero_iff.1 h0
   rw [if_pos List.length_nil]
   rcases lf_cases ⟨K, h, _, _, _, _, rfl⟩ with ⟨n', q0, e⟩ | ⟨k', n', m', ls', hk, e⟩
   ·rw [e, raF_var]
    by_cases he : (d : Int) ≤ n'
    ·rw [if_pos ⟨he, by omega⟩, cntT, if_neg (fun q => by have := of_decide_eq_true q.2.2; omega), cntA]
    ·rw [if_neg (fun q => he q.1), cntT, if_neg (fun q => he q.2.1), cntA]
   ·rw [e, raF_oth hk, cntT, if_neg (fun q => hk q.1), cntA]
  ·obtain ⟨rfl, rfl, rfl, k1⟩ := ok_inner h h0
   rw [okT, Bool.and_eq_true] at h
   rw [if_neg h0, cntT, if_neg (fun q => k1 q.1), subL_length]
   exact cntA_raised c hc k ts.length ts 0 K d h.2
theorem cntA_raised (c : Int) (hc : 0 ≤ c) (kd : Int) (len : Nat) : ∀ (ts : List Tm) (i : Nat) (K : Int) (d : Nat), okTL RN RL kd ts i K = true → cntA (fun n => decide (n < c)) kd len (subL (raF c 0) kd len ts i d) i d = 0
 | [], _, _, _, _ => by rw [subL, cntA]
 | a :: ts, i, K, d, h => by
  rw [okTL, Bool.and_eq_true] at h
  rw [subL, cntA, cnt_raised c hc a _ _ h.1, cntA_raised c hc kd len ts (i + 1) K d h.2]
end
mutual
theorem liT_lo2 (c : Int) (hc : 0 ≤ c) : ∀ (t : Tm) (d : Int), loT (liT c t d) d = if loT t d = 0 then 0 else loT t d + c
 | .mk kd n nm ls ts, d => by
  rw [liT, loT, loT]
  by_cases h1 : kd = 1
  ·subst h1
   rw [if_pos rfl, if_pos rfl]
   by_cases h2 : d ≤ n
   ·rw [if_pos ⟨rfl, h2⟩, if_neg (by omega)]; omega
   ·rw [if_neg (fun q => h2 q.2), if_pos (by omega)]; omega
  ·rw [if_neg h1, if_neg h1]
   exact liTL_lo2 c hc kd ts 0 d
theorem liTL_lo2 (c : Int) (hc : 0 ≤ c) (kd : Int) : ∀ (ts : List Tm) (i : Nat) (d : Int), loTL kd (liTL c kd ts i d) i d = if loTL kd ts i d = 0 then 0 else loTL kd ts i d + c
 | [], _, _ => by rw [liTL, loTL]; rfl
 | a :: ts, i, d => by
  rw [liTL, loTL, loTL, liT_lo2 c hc a, liTL_lo2 c hc kd ts]
  have h1 := loT_pos a (under kd i d)
  have h2 := loTL_pos kd ts (i + 1) d
  generalize loT a (under kd i d) = x at *
  generalize loTL kd ts (i + 1) d = y at *
  by_cases hx : x = 0
  ·by_cases hy : y = 0
   ·rw [if_pos hx, if_pos hy, if_pos (by omega)]; omega
   ·rw [if_pos hx, if_neg hy, if_neg (by omega)]; omega
  ·by_cases hy : y = 0
   ·rw [if_neg hx, if_pos hy, if_neg (by omega)]; omega
   ·rw [if_neg hx, if_neg hy, if_neg (by omega)]; omega
end
end
theorem raised_right {RN : ByteArray → Bool} {t : Tm} (c : Int) (h0 : 0 ≤ c) (h1 : c ≤ 1000000000) (h : rightT RN 4 t 1125899906842624 = true) (hl : loT t 0 ≤ 1099511627776 + 1000000000) : rightT RN 4 (subT (raF c 0) t 0) 1125899906842624 = true := by
 have hn := right_nodes c 0 h
 obtain ⟨q0, q1, q2⟩ := rightT_ok h
 rw [show min (1125899906842624 : Int) 1125899906842624 = 1125899906842624 by omega] at q2
 have key : ∀ k0 : Int, 0 ≤ k0 → loT t 0 ≤ k0 → k0 + c ≤ 1125899906842624 → okT RN (rightB 4) (liT c t 0) 1125899906842624 = true := fun k0 a0 a1 a2 => by
  have hk := (okT_lo RN (rightB 4) t 1125899906842624 k0 0 q2 a0).2 a1
  have hm := okT_mono RN (rightB 4) (liT_ok RN (rightB 4) c h0 t _ 0 hk) (by omega) (1125899906842624 - (k0 + 0 + c)) (by omega)
  rwa [show k0 + 0 + c + (1125899906842624 - (k0 + 0 + c)) = 1125899906842624 by omega] at hm
 have hm : okT RN (rightB 4) (subT (raF c 0) t 0) 1125899906842624 = true := (congrArg (fun x => okT RN (rightB 4) x 1125899906842624) (raF_li c t _ 0 q2)).trans (key (1099511627776 + 1000000000) (by omega) hl (by omega))
 unfold rightT
 rw [show min (1125899906842624 : Int) 1125899906842624 = 1125899906842624 by omega, hn]
 simp only [Bool.and_eq_true, decide_eq_true_eq]
 exact ⟨⟨by omega, q1⟩, hm⟩
theorem raised_lo {RN : ByteArray → Bool} {t : Tm} (c : Int) (h0 : 0 ≤ c) (h : rightT RN 4 t 1125899906842624 = true) : loT (subT (raF c 0) t 0) 0 = if loT t 0 = 0 then 0 else loT t 0 + c := by
 obtain ⟨q0, q1, q2⟩ := rightT_ok h
 rw [raF_li c t _ 0 q2]
 exact liT_lo2 c h0 t 0
section
variable {RN : ByteArray → Bool} {RL : Lv → Bool}
mutual
theorem inst1_nodes (a : Tm) (Ka : Int) (ha : okT RN RL a Ka = true) : ∀ (t : Tm) (K : Int) (d : Nat), okT RN RL t K = true → tnodes (subT (instF [a]) t d) + cntT (fun n => n == 0) t d = tnodes t + cntT (fun n => n == 0) t d * tnodes a
 | .mk k n m ls ts, K, d, h => by
  rw [subT]
  by_cases h0 : ts.length = 0
  ·obtain rfl : ts = [] := List.length_eq_zero_iff.1 h0
   rw [if_pos List.length_nil]
   rcases lf_cases ⟨K, h, _, _, _, _, rfl⟩ with ⟨n', q0, e⟩ | ⟨k', n', m', ls', hk, e⟩
   ·rw [e, instF_var]
    have e1 : ∀ x : Int, tnodes (tvr x) = 1 := fun x => by rw [tnodes, nodesL, tnodesL]
    by_cases he : (d : Int) ≤ n'
    ·by_cases hd : n' - d < 1
     ·obtain rfl : n' = d := by omega
      rw [if_pos he, if_pos (by simp), cntT, if_pos ⟨rfl, he, by simp⟩, e1, show ([a] : List Tm).getD (([a] : List Tm).length - 1 - ((d : Int) - d).toNat) (tvr 0) = a by simp, raised_nodes _ 0 ha]
      omega
     ·rw [if_pos he, if_neg (by simpa using hd), cntT, if_neg (fun q => by have := eq_of_beq q.2.2; omega), cntA, e1, e1]
      omega
    ·rw [if_neg he, cntT, if_neg (fun q => he q.2.1), cntA, e1]
     omega
   ·rw [e, instF_oth hk, cntT, if_neg (fun q => hk q.1), cntA]
    omega
  ·obtain ⟨rfl, rfl, rfl, k1⟩ := ok_inner h h0
   rw [okT, Bool.and_eq_true] at h
   have ih := inst1L_nodes a Ka ha k ts.length ts 0 K d h.2
   rw [if_neg h0, cntT, if_neg (fun q => k1 q.1), tnodes, tnodes, nodesL]
   omega
theorem inst1L_nodes (a : Tm) (Ka : Int) (ha : okT RN RL a Ka = true) (kd : Int) (len : Nat) : ∀ (ts : List Tm) (i : Nat) (K : Int) (d : Nat), okTL RN RL kd ts i K = true → tnodesL (subL (instF [a]) kd len ts i d) + cntA (fun n => n == 0) kd len ts i d = tnodesL ts + cntA (fun n => n == 0) kd len ts i d * tnodes a
 | [], _, _, _, _ => by rw [subL, cntA, tnodesL]; omega
 | b :: ts, i, K, d, h => by
  rw [okTL, Bool.and_eq_true] at h
  have h1 := inst1_nodes a Ka ha b _ (d + bndP kd len i) h.1
  have h2 := inst1L_nodes a Ka ha kd len ts (i + 1) K d h.2
  rw [subL, cntA, tnodesL, tnodesL, Nat.add_mul]
  omega
end
mutual
theorem inst1_same (a b : Tm) : ∀ (t : Tm) (K : Int) (d : Nat), okT RN RL t K = true → cntT (fun n => n == 0) t d = 0 → subT (instF [a]) t d = subT (instF [b]) t d
 | .mk k n m ls ts, K, d, h, hc => by
  rw [subT, subT]
  by_cases h0 : ts.length = 0
  ·obtain rfl : ts = [] := List.length_eq_zero_iff.1 h0
   rw [if_pos List.length_nil, if_pos List.length_nil]
   rcases lf_cases ⟨K, h, _, _, _, _, rfl⟩ with ⟨n', q0, e⟩ | ⟨k', n', m', ls', hk, e⟩
   ·rw [e] at hc ⊢
    rw [instF_var, instF_var]
    by_cases he : (d : Int) ≤ n'
    ·by_cases hd : n' - d < 1
     ·exfalso
      rw [cntT, if_pos ⟨rfl, he, by simp; omega⟩] at hc
      omega
     ·rw [if_pos he, if_pos he, if_neg (by simpa using hd), if_neg (by simpa using hd)]
      rfl
    ·rw [if_neg he, if_neg he]
   ·rw [e, instF_oth hk, instF_oth hk]
  ·obtain ⟨rfl, rfl, rfl, k1⟩ := ok_inner h h0
   rw [okT, Bool.and_eq_true] at h
   rw [cntT, if_neg (fun q => k1 q.1)] at hc
   rw [if_neg h0, if_neg h0, inst1L_same a b k ts.length ts 0 K d h.2 hc]
theorem inst1L_same (a b : Tm) (kd : Int) (len : Nat) : ∀ (ts : List Tm) (i : Nat) (K : Int) (d : Nat), okTL RN RL kd ts i K = true → cntA (fun n => n == 0) kd len ts i d = 0 → subL (instF [a]) kd len ts i d = subL (instF [b]) kd len ts i d
 | [], _, _, _, _, _ => by rw [subL, subL]
 | x :: ts, i, K, d, h, hc => by
  rw [okTL, Bool.and_eq_true] at h
  rw [cntA] at hc
  rw [subL, subL, inst1_same a b x _ _ h.1 (by omega), inst1L_same a b kd len ts (i + 1) K d h.2 (by omega)]
end
theorem inst_steps (a b : Tm) {t : Tm} {K Kb : Int} (h : okT RN RL t K = true) (hb : okT RN RL b Kb = true) : subT (instF [a]) (subT (instF [subT (raF 1 0) b 0]) t 0) 0 = subT (instF [a, b]) t 0 := by
 refine sub_two _ _ _ h fun l e hl => ?_
 rcases lf_cases hl with ⟨n, h0, rfl⟩ | ⟨k, n, m, ls, hk, rfl⟩
 ·rw [instF_var, instF_var]
  by_cases he : (e : Int) ≤ n
  ·rw [if_pos he, if_pos he]
   by_cases h1 : n - e < 1
   ·obtain rfl : n = e := by omega
    rw [if_pos (by simp), if_pos (by simp), show ([subT (raF 1 0) b 0] : List Tm).getD (([subT (raF 1 0) b 0] : List Tm).length - 1 - ((e : Int) - e).toNat) (tvr 0) = subT (raF 1 0) b 0 by simp, show ([a, b] : List Tm).getD (([a, b] : List Tm).length - 1 - ((e : Int) - e).toNat) (tvr 0) = b by simp, raise_raise 1 e (by omega) hb]
    have hs := subT_sub (raF (1 + e) 0) (instF [a]) e b 0
    rw [Nat.add_zero] at hs
    rw [hs]
    refine subT_congr b 0 (allT_mono (fun l d q => ?_) b 0 (lf_leaves 0 hb))
    rcases lf_cases q with ⟨n', q0, rfl⟩ | ⟨k, n', m, ls, hk, rfl⟩
    ·rw [raF_var, raF_var]
     by_cases hd : (d : Int) ≤ n'
     ·rw [if_pos ⟨hd, by omega⟩, if_pos ⟨hd, by omega⟩, subT_leaf, instF_var, if_pos (by omega), if_neg (by simp; omega)]
      rw [show n' + (1 + (e : Int)) - (([a] : List Tm).length : Nat) = n' + e by simp; omega]
     ·rw [if_neg (fun q => hd q.1), if_neg (fun q => hd q.1), subT_leaf, instF_var, if_neg (by omega)]
    ·rw [raF_oth hk, raF_oth hk, subT_leaf, instF_oth hk]
   ·rw [if_neg (by simpa using h1), show n - (([subT (raF 1 0) b 0] : List Tm).length : Nat) = n - 1 by simp, subT_leaf, instF_var, if_pos (by omega)]
    by_cases h2 : n - e < 2
    ·obtain rfl : n = e + 1 := by omega
     rw [if_pos (by simp), if_pos (by simp; omega), show ([a] : List Tm).getD (([a] : List Tm).length - 1 - ((e : Int) + 1 - 1 - e).toNat) (tvr 0) = a by simp, show ([a, b] : List Tm).getD (([a, b] : List Tm).length - 1 - ((e : Int) + 1 - e).toNat) (tvr 0) = a by rw [show ((e : Int) + 1 - e).toNat = 1 by omega]; rfl]
    ·rw [if_neg (by simp; omega), if_neg (by simp; omega), show n - 1 - (([a] : List Tm).length : Nat) = n - (([a, b] : List Tm).length : Nat) by simp; omega]
  ·rw [if_neg he, if_neg he, subT_leaf, instF_var, if_neg he]
 ·rw [instF_oth hk, subT_leaf, instF_oth hk, instF_oth hk]
mutual
theorem inst_lo (args : List Tm) (R : Int) (hR : 0 ≤ R) (hargs : ∀ a ∈ args, loT a 0 ≤ R ∧ ∃ K, okT RN RL a K = true) : ∀ (t : Tm) (K : Int) (d : Nat), okT RN RL t K = true → loT (subT (instF args) t d) d ≤ max (loT t d - args.length) R
 | .mk k n m ls ts, K, d, h => by
  rw [subT]
  by_cases h0 : ts.length = 0
  ·obtain rfl : ts = [] := List.length_eq_zero_iff.1 h0
   rw [if_pos List.length_nil]
   rcases lf_cases ⟨K, h, _, _, _, _, rfl⟩ with ⟨n', q0, e⟩ | ⟨k', n', m', ls', hk, e⟩
   ·rw [e, instF_var]
    by_cases he : (d : Int) ≤ n'
    ·by_cases hd : n' - d < args.length
     ·rw [if_pos he, if_pos hd]
      have hi : args.length - 1 - (n' - d).toNat < args.length := by omega
      rw [show args.getD (args.length - 1 - (n' - d).toNat) (tvr 0) = args[args.length - 1 - (n' - d).toNat] by rw [List.getD_eq_getElem?_getD, List.getElem?_eq_getElem hi, Option.getD_some]]
      obtain ⟨r1, Ka, r2⟩ := hargs _ (List.getElem_mem hi)
      rw [raF_li (d : Int) _ Ka 0 r2]
      have := liT_lo (d : Int) (by omega) args[args.length - 1 - (n' - d).toNat] 0
      rw [Int.add_zero] at this
      rw [show ((0 : Nat) : Int) = 0 by rfl, this]
      omega
     ·rw [if_pos he, if_neg hd, loT, loT, if_pos rfl, if_pos rfl]
      omega
    ·rw [if_neg he, loT, if_pos rfl]
     omega
   ·rw [e, instF_oth hk, loT, if_neg hk, loTL]
    omega
  ·obtain ⟨rfl, rfl, rfl, k1⟩ := ok_inner h h0
   have h' := h
   rw [okT, Bool.and_eq_true] at h
   rw [if_neg h0, loT, if_neg k1, loT, if_neg k1]
   exact instL_lo args R hR hargs k 0 ⟨#[]⟩ [] ts.length h.1 ts 0 K d (by omega) h.2
theorem instL_lo (args : List Tm) (R : Int) (hR : 0 ≤ R) (hargs : ∀ a ∈ args, loT a 0 ≤ R ∧ ∃ K, okT RN RL a K = true) (kd n : Int) (nm : ByteArray) (ls : List Lv) (len : Nat) {k : Int} (hs : Trm.shape RN RL kd n nm ls len k = true) : ∀ (ts : List Tm) (i : Nat) (K : Int) (d : Nat), i + ts.length ≤ len → okTL RN RL kd ts i K = true → loTL kd (subL (instF args) kd len ts i d) i d ≤ max (loTL kd ts i d - args.length) R
 | [], _, _, _, _, _ => by rw [subL, loTL]; omega
 | a :: ts, i, K, d, hi, ho => by
  rw [List.length_cons] at hi
  rw [okTL, Bool.and_eq_true] at ho
  have h1 := inst_lo args R hR hargs a _ (d + bndP kd len i) ho.1
  have h2 := instL_lo args R hR hargs kd n nm ls len hs ts (i + 1) K d (by omega) ho.2
  have hu := bndP_under hs i (by omega) (d : Int)
  rw [subL, loTL, loTL, hu, show (d : Int) + ((bndP kd len i : Nat) : Int) = ((d + bndP kd len i : Nat) : Int) by omega]
  omega
end
end
end Bnd
end Go.Proofs.YteomfakbbcpckaaGreatDoor
namespace Go.Proofs.YteomfakbbcpckaaGreatDoor
open Go.RowKit
open Lvl
namespace Trm
set_option maxRecDepth 100000 in
set_option maxHeartbeats 2000000 in
theorem refRightT_free (t : Tm) (v : Value) (nn kk : Int) (w : World) (hv : TmV w t v) (hnm : nmOk t) (h0 : 0 ≤ nn) (h4 : nn ≤ 4) (b : Bool) (hb : rightT Nm.rightB nn t kk = b) :
  Calls Tryz.prog 35 #[v, .int .i64 nn, .int .i64 kk] w (Ret w (.bool b)) := by
 have HNK := Lib.hid hnm
 have HV := Lib.hid hb
 clear hnm hb
 obtain ⟨l, s, rfl, ht⟩ := hv
 obtain ⟨⟨la, ll, lc, rfl⟩, sa, sl, sc, rfl⟩ := tmP_slices ht
 have HTT := Lib.hid ht
 obtain ⟨k, hk⟩ : ∃ k, tkOf t = k := ⟨_, rfl⟩
 obtain ⟨n, hn⟩ : ∃ n, tnOf t = n := ⟨_, rfl⟩
 obtain ⟨m, hmm⟩ : ∃ m, tmOf t = m := ⟨_, rfl⟩
 dsimp only [tv]
 rw [hk, hn, hmm]
 have HK := Lib.hid hk
 have HNN := Lib.hid hn
 have HMM := Lib.hid hmm
 clear hk hn hmm ht
 have d1 : decide (0 ≤ nn) = true := by simp; omega
 have d2 : decide (nn ≤ 4) = true := by simp; omega
 by_cases hk0 : 0 ≤ kk
 ·have d0 : decide (0 ≤ kk) = true := by simp; omega
  go_enter Tryz.func35, Tryz.ntmps35
  go_wp2_with fail
  have z1 : (w.alloc (.cells #[.int .i64 k, .int .i64 n, .string m, .slice la ll lc, .slice sa sl sc] 25)).heap.size = w.heap.size + 1 := by simp
  have r0 : (w.alloc (.cells #[.int .i64 k, .int .i64 n, .string m, .slice la ll lc, .slice sa sl sc] 25)).heap[w.heap.size]? = some (Obj.cells #[.int .i64 k, .int .i64 n, .string m, .slice la ll lc, .slice sa sl sc] 25 (0, 0)) := by
   have := heap_alloc_new w (.cells #[.int .i64 k, .int .i64 n, .string m, .slice la ll lc, .slice sa sl sc] 25)
   exact this
  have HB := Lib.hid (below_lit w (.cells #[.int .i64 k, .int .i64 n, .string m, .slice la ll lc, .slice sa sl sc] 25))
  have HR0 := Lib.hid (r0)
  clear r0
  generalize (w.alloc (.cells #[.int .i64 k, .int .i64 n, .string m, .slice la ll lc, .slice sa sl sc] 25)) = W at *
  have HZ := Lib.hid z1
  clear z1
  have HT : Hid (TmV W t (.agg #[.int .i64 k, .int .i64 n, .string m, .slice la ll lc, .slice sa sl sc])) := by
   have : TmV W t (.agg #[.int .i64 k, .int .i64 n, .string m, .slice la ll lc, .slice sa sl sc]) := ⟨_, _, by rw [← HK.out, ← HNN.out, ← HMM.out], tmP_below HB.out HTT.out⟩
   exact this
  have hz := HZ.out
  have hk : Hid (∀ W', Below W.heap.size W W' → W'.cell? ⟨w.heap.size, 0, none⟩ = some (.int .i64 k) ∧ W'.cell? ⟨w.heap.size, 1, none⟩ = some (.int .i64 n) ∧ W'.cell? ⟨w.heap.size, 2, none⟩ = some (.string m) ∧ W'.cell? ⟨w.heap.size, 3, none⟩ = some (.slice la ll lc) ∧ W'.cell? ⟨w.heap.size, 4, none⟩ = some (.slice sa sl sc)) := fun W' h => five_cells ((h.block w.heap.size (by omega)).trans HR0.out)
  clear HR0 HTT
  obtain ⟨R, hR⟩ : ∃ R, min (tnodes t) (2000 + 1) = R := ⟨_, rfl⟩
  have HR := Lib.hid hR
  refine (refNodes_is t _ 2000 W HT.out (by omega) R hR).mono ?_
  rintro e w2 ⟨rfl, hb2⟩
  have HB2 := Lib.hid hb2
  clear hb2 hR
  obtain ⟨a0, a1, a2, a3, a4⟩ := hk.out w2 HB2.out
  by_cases hR0 : R ≤ 2000
  ·have d3 : decide ((R : Int) ≤ 2000) = true := by simp; omega
   have HO : Hid (okT Nm.rightB (rightB nn) t (min kk 1125899906842624) = b) := by
    have : okT Nm.rightB (rightB nn) t (min kk 1125899906842624) = b := by
     have h1 := HR.out
     rw [← HV.out, rightT, decide_eq_true hk0, decide_eq_true (show tnodes t ≤ 2000 by omega), Bool.true_and, Bool.true_and]
    exact this
   by_cases hk5 : kk ≤ 1125899906842624
   ·have e5 : min kk 1125899906842624 = kk := by omega
    rw [e5] at HO
    go_wp2_with fail
    refine (refRightT_up nn (tnodes t) t _ kk w2 b (Nat.le_refl _) HNK.out (HT.out.below HB2.out) hk0 (by have := HR.out; omega) HO.out).mono ?_
    rintro e w3 ⟨rfl, hb3⟩
    have HB3 := Lib.hid (HB2.out.trans (hb3.mono HB2.out.size))
    clear hb3
    cases b <;> (go_wp2_with fail; go_ret; exact ⟨rfl, HB.out.trans (HB3.out.mono HB.out.size)⟩)
   ·have e5 : min kk 1125899906842624 = 1125899906842624 := by omega
    rw [e5] at HO
    go_wp2_with fail
    refine (refRightT_up nn (tnodes t) t _ 1125899906842624 w2 b (Nat.le_refl _) HNK.out (HT.out.below HB2.out) (by omega) (by have := HR.out; omega) HO.out).mono ?_
    rintro e w3 ⟨rfl, hb3⟩
    have HB3 := Lib.hid (HB2.out.trans (hb3.mono HB2.out.size))
    clear hb3
    cases b <;> (go_wp2_with fail; go_ret; exact ⟨rfl, HB.out.trans (HB3.out.mono HB.out.size)⟩)
  ·have d3 : decide ((R : Int) ≤ 2000) = false := by simp; omega
   have hbf : b = false := by
    have h1 := HR.out
    rw [← HV.out, rightT, decide_eq_false (show ¬ tnodes t ≤ 2000 by omega), Bool.and_false, Bool.false_and]
   subst hbf
   go_wp2_with fail
   go_ret
   exact ⟨rfl, HB.out.trans (HB2.out.mono HB.out.size)⟩
 ·have d0 : decide (0 ≤ kk) = false := by simp; omega
  have hbf : b = false := by rw [← HV.out, rightT, decide_eq_false hk0, Bool.false_and, Bool.false_and]
  subst hbf
  go_enter Tryz.func35, Tryz.ntmps35
  go_wp2_with fail
  go_ret
  exact ⟨rfl, below_lit w _⟩
set_option maxRecDepth 100000 in
set_option maxHeartbeats 2000000 in
theorem refAny_free (t : Tm) (v : Value) (nn : Int) (w : World) (hv : TmV w t v) (hnm : nmOk t) (h0 : 0 ≤ nn) (h4 : nn ≤ 4) (b : Bool) (hb : rightT Nm.rightB nn t 1125899906842624 = b) :
  Calls Tryz.prog 11 #[v, .int .i64 nn] w (Ret w (.bool b)) := by
 have HNK := Lib.hid hnm
 have HV := Lib.hid hb
 clear hnm hb
 obtain ⟨l, s, rfl, ht⟩ := hv
 obtain ⟨⟨la, ll, lc, rfl⟩, sa, sl, sc, rfl⟩ := tmP_slices ht
 have HTT := Lib.hid ht
 obtain ⟨k, hk⟩ : ∃ k, tkOf t = k := ⟨_, rfl⟩
 obtain ⟨n, hn⟩ : ∃ n, tnOf t = n := ⟨_, rfl⟩
 obtain ⟨m, hmm⟩ : ∃ m, tmOf t = m := ⟨_, rfl⟩
 dsimp only [tv]
 rw [hk, hn, hmm]
 have HK := Lib.hid hk
 have HNN := Lib.hid hn
 have HMM := Lib.hid hmm
 clear hk hn hmm ht
 go_enter Tryz.func11, Tryz.ntmps11
 go_wp2_with fail
 have z1 : (w.alloc (.cells #[.int .i64 k, .int .i64 n, .string m, .slice la ll lc, .slice sa sl sc] 25)).heap.size = w.heap.size + 1 := by simp
 have r0 : (w.alloc (.cells #[.int .i64 k, .int .i64 n, .string m, .slice la ll lc, .slice sa sl sc] 25)).heap[w.heap.size]? = some (Obj.cells #[.int .i64 k, .int .i64 n, .string m, .slice la ll lc, .slice sa sl sc] 25 (0, 0)) := by
  have := heap_alloc_new w (.cells #[.int .i64 k, .int .i64 n, .string m, .slice la ll lc, .slice sa sl sc] 25)
  exact this
 have HB := Lib.hid (below_lit w (.cells #[.int .i64 k, .int .i64 n, .string m, .slice la ll lc, .slice sa sl sc] 25))
 have HR0 := Lib.hid (r0)
 clear r0
 generalize (w.alloc (.cells #[.int .i64 k, .int .i64 n, .string m, .slice la ll lc, .slice sa sl sc] 25)) = W at *
 have HZ := Lib.hid z1
 clear z1
 have HT : Hid (TmV W t (.agg #[.int .i64 k, .int .i64 n, .string m, .slice la ll lc, .slice sa sl sc])) := by
  have : TmV W t (.agg #[.int .i64 k, .int .i64 n, .string m, .slice la ll lc, .slice sa sl sc]) := ⟨_, _, by rw [← HK.out, ← HNN.out, ← HMM.out], tmP_below HB.out HTT.out⟩
  exact this
 clear HR0 HTT
 refine (refRightT_free t _ nn _ W HT.out HNK.out h0 h4 b HV.out).mono ?_
 rintro e w3 ⟨rfl, hb3⟩
 have HB3 := Lib.hid (HB.out.trans (hb3.mono HB.out.size))
 clear hb3
 go_wp2_with fail
 go_ret
 exact ⟨rfl, HB3.out⟩
end Trm
end Go.Proofs.YteomfakbbcpckaaGreatDoor
namespace Go.Proofs.YteomfakbbcpckaaGreatDoor
open Go.RowKit
open Lvl
namespace Trm
theorem loTL_append (kd : Int) : ∀ (l r : List Tm) (i : Nat) (d : Int), loTL kd (l ++ r) i d = max (loTL kd l i d) (loTL kd r (i + l.length) d)
 | [], r, i, d => by
  rw [List.nil_append, loTL, List.length_nil, Nat.add_zero]
  have := loTL_pos kd r i d
  omega
 | a :: l, r, i, d => by
  rw [List.cons_append, loTL, loTL, loTL_append kd l r, List.length_cons, show i + 1 + l.length = i + (l.length + 1) by omega]
  omega
theorem loTL_take (kd : Int) {ts : List Tm} {j : Nat} (h : j < ts.length) (d : Int) : loTL kd (ts.take (j + 1)) 0 d = max (loTL kd (ts.take j) 0 d) (loT ts[j] (under kd j d)) := by
 rw [List.take_add_one, List.getElem?_eq_getElem h, loTL_append, Nat.zero_add, List.length_take, Nat.min_eq_left (by omega)]
 have := loT_pos ts[j] (under kd j d)
 simp only [Option.toList_some, loTL]
 omega
set_option maxRecDepth 100000 in
set_option maxHeartbeats 1000000 in
theorem refLoose_up (RN : ByteArray → Bool) : ∀ (N : Nat) (t : Tm) (v : Value) (deep K : Int) (w : World), tnodes t ≤ N → okT RN (rightB 4) t K = true → K + N ≤ 1125899907842624 → 0 ≤ deep → deep + N ≤ 2000000 → TmV w t v →
  Calls Tryz.prog 36 #[v, .int .i64 deep] w (Ret w (.int .i64 (loT t deep))) := by
 intro N
 induction N with
 | zero => intro t v deep K w h _ _ _ _ _; have := tnodes_pos t; omega
 | succ N ih =>
 intro t v deep K w hN hok hK hd0 hd1 hv
 obtain ⟨l, s, rfl, ht⟩ := hv
 cases t with
 | mk k n m ls ts =>
 obtain ⟨hno, hvar⟩ := ok_node hok
 rw [okT, Bool.and_eq_true] at hok
 have HTT := Lib.hid ht
 rw [TmP, LvP] at ht
 obtain ⟨⟨LA, ll, lc, rfl, l1, l2, l3, l4, l5⟩, A, len, cap, rfl, h1, h2, h2b, h3, h4⟩ := ht
 have IH := Lib.hid ih
 have HTS := Lib.hid h4
 have HN := Lib.hid h1
 have HOK := Lib.hid hok.2
 have HVAR := Lib.hid hvar
 have HNN : Hid (tnodesL ts ≤ N) := by
  rw [tnodes] at hN
  have : tnodesL ts ≤ N := by omega
  exact this
 obtain ⟨R, hR⟩ : ∃ R, loT (.mk k n m ls ts) deep = R := ⟨_, rfl⟩
 have HR := Lib.hid hR
 rw [hR]
 clear h4 h1 h3 l5 l1 l4 hN ih hok hno hvar hR
 show Calls Tryz.prog 36 #[.agg #[.int .i64 k, .int .i64 n, .string m, .slice LA ll lc, .slice A len cap], .int .i64 deep] w (Ret w (.int .i64 R))
 by_cases hk1 : k = 1
 ·have hn0 := (HVAR.out hk1).2
  have HE : Hid (max (n - deep + 1) 0 = R) := by
   have : max (n - deep + 1) 0 = R := by rw [← HR.out, loT, if_pos hk1]
   exact this
  subst hk1
  have g1 : -9223372036854775808 ≤ n - deep ∧ n - deep ≤ 9223372036854775807 := ⟨by omega, by omega⟩
  have g2 : -9223372036854775808 ≤ n - deep + 1 ∧ n - deep + 1 ≤ 9223372036854775807 := ⟨by omega, by omega⟩
  by_cases h0 : 0 ≤ n - deep + 1
  ·have e5 : max (n - deep + 1) 0 = n - deep + 1 := by omega
   have e6 : n - deep + 1 = R := e5.symm.trans HE.out
   have HE6 := Lib.hid e6
   clear e6
   have hw1 : wrap64 (n - deep) = n - deep := IntWalk.wrap64_in _ g1
   have hw2 : wrap64 (n - deep + 1) = n - deep + 1 := IntWalk.wrap64_in _ g2
   clear g1 g2
   go_enter Tryz.func36, Tryz.ntmps36
   go_wp2_with fail
   go_ret
   exact ⟨by rw [HE6.out]; rfl, below_lit w _⟩
  ·have e5 : max (n - deep + 1) 0 = 0 := by omega
   have e6 : 0 = R := e5.symm.trans HE.out
   have HE6 := Lib.hid e6
   clear e6
   have hw1 : wrap64 (n - deep) = n - deep := IntWalk.wrap64_in _ g1
   have hw2 : wrap64 (n - deep + 1) = n - deep + 1 := IntWalk.wrap64_in _ g2
   clear g1 g2
   go_enter Tryz.func36, Tryz.ntmps36
   go_wp2_with fail
   go_ret
   exact ⟨by rw [HE6.out]; rfl, below_lit w _⟩
 have d1 : (k == 1) = false := by simp; exact hk1
 have HE : Hid (loTL k ts 0 deep = R) := by
  have : loTL k ts 0 deep = R := by rw [← HR.out, loT, if_neg hk1]
  exact this
 go_enter Tryz.func36, Tryz.ntmps36
 go_wp2_with fail
 have z1 : (w.alloc (.cells #[.int .i64 k, .int .i64 n, .string m, .slice LA ll lc, .slice A len cap] 25)).heap.size = w.heap.size + 1 := by simp
 have r0 : (w.alloc (.cells #[.int .i64 k, .int .i64 n, .string m, .slice LA ll lc, .slice A len cap] 25)).heap[w.heap.size]? = some (Obj.cells #[.int .i64 k, .int .i64 n, .string m, .slice LA ll lc, .slice A len cap] 25 (0, 0)) := by
  have := heap_alloc_new w (.cells #[.int .i64 k, .int .i64 n, .string m, .slice LA ll lc, .slice A len cap] 25)
  exact this
 have HB := Lib.hid (below_lit w (.cells #[.int .i64 k, .int .i64 n, .string m, .slice LA ll lc, .slice A len cap] 25))
 have HR0 := Lib.hid (r0)
 clear r0
 generalize (w.alloc (.cells #[.int .i64 k, .int .i64 n, .string m, .slice LA ll lc, .slice A len cap] 25)) = W at *
 have HZ := Lib.hid z1
 clear z1
 have hz := HZ.out
 have hk : Hid (∀ W', Below W.heap.size W W' → W'.cell? ⟨w.heap.size, 0, none⟩ = some (.int .i64 k) ∧ W'.cell? ⟨w.heap.size, 1, none⟩ = some (.int .i64 n) ∧ W'.cell? ⟨w.heap.size, 2, none⟩ = some (.string m) ∧ W'.cell? ⟨w.heap.size, 3, none⟩ = some (.slice LA ll lc) ∧ W'.cell? ⟨w.heap.size, 4, none⟩ = some (.slice A len cap)) := fun W' h => five_cells ((h.block w.heap.size (by omega)).trans HR0.out)
 clear HR0
 obtain ⟨a0, a1, a2, a3, a4⟩ := hk.out W (Below.refl _ _)
 go_loopw [5, 6] (fun c i wr => ∃ (j : Nat) (acc : Int), j ≤ len ∧ i = .int .i64 j ∧ c = .int .i64 acc ∧ Hid (loTL k (ts.take j) 0 deep = acc) ∧ Hid (Below W.heap.size W wr)) (fun _ i _ => len - (intOf i).toNat)
 case atStart => exact ⟨0, 0, Nat.zero_le _, rfl, rfl, by rw [List.take_zero, loTL]; exact rfl, Below.refl _ _⟩
 case round =>
  obtain ⟨j, acc, hj, rfl, rfl, hal, hgr⟩ := hrel
  obtain ⟨a0, a1, a2, a3, a4⟩ := hk.out wr hgr.out
  by_cases hlt : j < len
  ·have hx1 : j < ts.length := by rw [HN.out]; exact hlt
   have hln : decide ((j : Int) < (len : Int)) = true := by simp; omega
   obtain ⟨bq, o, l1, s1, rfl, hbs, _, hc0, hc1, hc2, hc3, hc4, htm⟩ := tsP_get HTS.out j hx1
   obtain ⟨⟨xa, xl, xc, rfl⟩, ya, yl, yc, rfl⟩ := tmP_slices htm
   have HB2 := Lib.hid (HB.out.trans (hgr.out.mono HB.out.size))
   have hchild := ok_child HOK.out j hx1
   rw [Nat.zero_add] at hchild
   have hub : under k j K ≤ K + 1 := by unfold under; split <;> omega
   have hud : under k j deep ≤ deep + 1 ∧ 0 ≤ under k j deep := by unfold under; split <;> omega
   obtain ⟨br, hbr⟩ : ∃ b, loT ts[j] (under k j deep) = b := ⟨_, rfl⟩
   have hcall := fun (w' : World) (hw : Below w.heap.size w w') => IH.out ts[j] (tv ts[j] (.slice xa xl xc) (.slice ya yl yc)) (under k j deep) (under k j K) w' (Nat.le_trans (tnodes_mem (List.getElem_mem hx1)) HNN.out) hchild (by omega) hud.2 (by omega) ⟨_, _, rfl, tmP_below hw htm⟩
   rw [hbr] at hcall
   have HCALL := Lib.hid hcall
   dsimp only [tv] at HCALL
   have HT := Lib.hid (loTL_take k hx1 deep)
   have HBR := Lib.hid hbr
   have hke : Hid (∀ W', Below w.heap.size w W' → W'.cell? ⟨bq, o + j * 5, none⟩ = some (.int .i64 (tkOf ts[j])) ∧ W'.cell? ⟨bq, o + j * 5 + 1, none⟩ = some (.int .i64 (tnOf ts[j])) ∧ W'.cell? ⟨bq, o + j * 5 + 2, none⟩ = some (.string (tmOf ts[j])) ∧ W'.cell? ⟨bq, o + j * 5 + 3, none⟩ = some (.slice xa xl xc) ∧ W'.cell? ⟨bq, o + j * 5 + 4, none⟩ = some (.slice ya yl yc)) := fun W' h => ⟨(h.cell (p := ⟨bq, _, none⟩) hbs).trans hc0, (h.cell (p := ⟨bq, _, none⟩) hbs).trans hc1, (h.cell (p := ⟨bq, _, none⟩) hbs).trans hc2, (h.cell (p := ⟨bq, _, none⟩) hbs).trans hc3, (h.cell (p := ⟨bq, _, none⟩) hbs).trans hc4⟩
   have q1 : (0 : Int) ≤ (j : Int) := by omega
   have q2 : (j : Int) < (len : Int) := by omega
   generalize tkOf ts[j] = ka at *
   generalize tnOf ts[j] = na at *
   generalize tmOf ts[j] = ma at *
   clear htm hcall hbr hc0 hc1 hc2 hc3 hc4 hchild
   obtain ⟨bb, hbb⟩ : ∃ b, binds k j = b := ⟨_, rfl⟩
   go_wp2_with fail
   refine (refBinds_is k j wr bb hbb).mono ?_
   rintro e w5 ⟨rfl, hb5⟩
   have HB5 := Lib.hid (hgr.out.trans (hb5.mono hgr.out.size))
   clear hb5 a0 a1 a2 a3 a4
   obtain ⟨a0, a1, a2, a3, a4⟩ := hk.out w5 HB5.out
   have HB6 := Lib.hid (HB.out.trans (HB5.out.mono HB.out.size))
   obtain ⟨e0, e1, e2, e3, e4⟩ := hke.out w5 HB6.out
   obtain ⟨mx, hmx⟩ : ∃ x, max acc br = x := ⟨_, rfl⟩
   have HAL : Hid (loTL k (ts.take (j + 1)) 0 deep = mx) := by
    have : loTL k (ts.take (j + 1)) 0 deep = mx := by rw [HT.out, hal.out, HBR.out, hmx]
    exact this
   cases bb with
   | false =>
    have hu : under k j deep = deep := by unfold under; rw [hbb]; rfl
    rw [hu] at HCALL
    skip
    go_wp2_with fail
    refine (HCALL.out w5 HB6.out).mono ?_
    rintro e w7 ⟨rfl, hb7⟩
    have HB7 := Lib.hid (HB5.out.trans (hb7.mono HB5.out.size))
    clear hb7 a0 a1 a2 a3 a4 e0 e1 e2 e3 e4
    by_cases hle : acc ≤ br
    ·obtain rfl : mx = br := by omega
     go_wp2_with fail
     go_roundw
     case rel => exact ⟨j + 1, _, by omega, by go_num, rfl, HAL.out, HB7.out⟩
     case measure => simp [intOf]; omega
    ·obtain rfl : mx = acc := by omega
     go_wp2_with fail
     go_roundw
     case rel => exact ⟨j + 1, _, by omega, by go_num, rfl, HAL.out, HB7.out⟩
     case measure => simp [intOf]; omega
   | true =>
    have hu : under k j deep = (deep + 1) := by unfold under; rw [hbb]; rfl
    rw [hu] at HCALL
    have hwd : IntKind.i64.wrap (deep + 1) = deep + 1 := IntWalk.i64_in _ ⟨by omega, by omega⟩
    go_wp2_with fail
    refine (HCALL.out w5 HB6.out).mono ?_
    rintro e w7 ⟨rfl, hb7⟩
    have HB7 := Lib.hid (HB5.out.trans (hb7.mono HB5.out.size))
    clear hb7 a0 a1 a2 a3 a4 e0 e1 e2 e3 e4
    by_cases hle : acc ≤ br
    ·obtain rfl : mx = br := by omega
     go_wp2_with fail
     go_roundw
     case rel => exact ⟨j + 1, _, by omega, by go_num, rfl, HAL.out, HB7.out⟩
     case measure => simp [intOf]; omega
    ·obtain rfl : mx = acc := by omega
     go_wp2_with fail
     go_roundw
     case rel => exact ⟨j + 1, _, by omega, by go_num, rfl, HAL.out, HB7.out⟩
     case measure => simp [intOf]; omega
  ·obtain rfl : j = len := by omega
   have hln : decide ((j : Int) < (j : Int)) = false := by simp
   have hfin : acc = R := by
    have h1 := hal.out
    rw [List.take_of_length_le (by rw [HN.out]; exact Nat.le_refl _)] at h1
    exact h1.symm.trans HE.out
   have HFIN := Lib.hid hfin
   clear hfin
   go_wp2_with fail
   go_ret
   exact ⟨by rw [HFIN.out]; rfl, HB.out.trans (hgr.out.mono HB.out.size)⟩
def looseR (t : Tm) : Int := if rightT Nm.rightB 4 t 1125899906842624 = true then loT t 0 else 0
set_option maxRecDepth 100000 in
set_option maxHeartbeats 2000000 in
theorem refLoose_free (t : Tm) (v : Value) (w : World) (hv : TmV w t v) (hnm : nmOk t) (R : Int) (hR : looseR t = R) :
  Calls Tryz.prog 12 #[v] w (Ret w (.int .i64 R)) := by
 have HNK := Lib.hid hnm
 have HR := Lib.hid hR
 clear hnm hR
 obtain ⟨l, s, rfl, ht⟩ := hv
 obtain ⟨⟨la, ll, lc, rfl⟩, sa, sl, sc, rfl⟩ := tmP_slices ht
 have HTT := Lib.hid ht
 obtain ⟨k, hk⟩ : ∃ k, tkOf t = k := ⟨_, rfl⟩
 obtain ⟨n, hn⟩ : ∃ n, tnOf t = n := ⟨_, rfl⟩
 obtain ⟨m, hmm⟩ : ∃ m, tmOf t = m := ⟨_, rfl⟩
 dsimp only [tv]
 rw [hk, hn, hmm]
 have HK := Lib.hid hk
 have HNN := Lib.hid hn
 have HMM := Lib.hid hmm
 clear hk hn hmm ht
 go_enter Tryz.func12, Tryz.ntmps12
 go_wp2_with fail
 have z1 : (w.alloc (.cells #[.int .i64 k, .int .i64 n, .string m, .slice la ll lc, .slice sa sl sc] 25)).heap.size = w.heap.size + 1 := by simp
 have r0 : (w.alloc (.cells #[.int .i64 k, .int .i64 n, .string m, .slice la ll lc, .slice sa sl sc] 25)).heap[w.heap.size]? = some (Obj.cells #[.int .i64 k, .int .i64 n, .string m, .slice la ll lc, .slice sa sl sc] 25 (0, 0)) := by
  have := heap_alloc_new w (.cells #[.int .i64 k, .int .i64 n, .string m, .slice la ll lc, .slice sa sl sc] 25)
  exact this
 have HB := Lib.hid (below_lit w (.cells #[.int .i64 k, .int .i64 n, .string m, .slice la ll lc, .slice sa sl sc] 25))
 have HR0 := Lib.hid (r0)
 clear r0
 generalize (w.alloc (.cells #[.int .i64 k, .int .i64 n, .string m, .slice la ll lc, .slice sa sl sc] 25)) = W at *
 have HZ := Lib.hid z1
 clear z1
 have hz := HZ.out
 have hk : Hid (∀ W', Below W.heap.size W W' → W'.cell? ⟨w.heap.size, 0, none⟩ = some (.int .i64 k) ∧ W'.cell? ⟨w.heap.size, 1, none⟩ = some (.int .i64 n) ∧ W'.cell? ⟨w.heap.size, 2, none⟩ = some (.string m) ∧ W'.cell? ⟨w.heap.size, 3, none⟩ = some (.slice la ll lc) ∧ W'.cell? ⟨w.heap.size, 4, none⟩ = some (.slice sa sl sc)) := fun W' h => five_cells ((h.block w.heap.size (by omega)).trans HR0.out)
 have HT : Hid (TmV W t (.agg #[.int .i64 k, .int .i64 n, .string m, .slice la ll lc, .slice sa sl sc])) := by
  have : TmV W t (.agg #[.int .i64 k, .int .i64 n, .string m, .slice la ll lc, .slice sa sl sc]) := ⟨_, _, by rw [← HK.out, ← HNN.out, ← HMM.out], tmP_below HB.out HTT.out⟩
  exact this
 clear HR0 HTT
 obtain ⟨b, hb⟩ : ∃ b, rightT Nm.rightB 4 t 1125899906842624 = b := ⟨_, rfl⟩
 have HBB := Lib.hid hb
 clear hb
 refine (refAny_free t _ 4 W HT.out HNK.out (by decide) (by decide) b HBB.out).mono ?_
 rintro e w3 ⟨rfl, hb3⟩
 have HB3 := Lib.hid hb3
 clear hb3
 obtain ⟨a0, a1, a2, a3, a4⟩ := hk.out w3 HB3.out
 cases b with
 | false =>
  have hR0 : R = 0 := by rw [← HR.out, looseR, HBB.out]; rfl
  subst hR0
  go_wp2_with fail
  go_ret
  exact ⟨rfl, HB.out.trans (HB3.out.mono HB.out.size)⟩
 | true =>
  have HRR : Hid (loT t 0 = R) := by
   have : loT t 0 = R := by rw [← HR.out, looseR, if_pos HBB.out]
   exact this
  have hrt := rightT_ok HBB.out
  rw [show min (1125899906842624 : Int) 1125899906842624 = 1125899906842624 by omega] at hrt
  have HCALL := Lib.hid (refLoose_up Nm.rightB (tnodes t) t _ 0 1125899906842624 w3 (Nat.le_refl _) hrt.2.2 (by have := hrt.2.1; omega) (by decide) (by have := hrt.2.1; omega) (HT.out.below HB3.out))
  rw [HRR.out] at HCALL
  clear hrt
  go_wp2_with fail
  refine HCALL.out.mono ?_
  rintro e w4 ⟨rfl, hb4⟩
  have HB4 := Lib.hid (HB3.out.trans (hb4.mono HB3.out.size))
  clear hb4
  go_wp2_with fail
  go_ret
  exact ⟨rfl, HB.out.trans (HB4.out.mono HB.out.size)⟩
end Trm
end Go.Proofs.YteomfakbbcpckaaGreatDoor
