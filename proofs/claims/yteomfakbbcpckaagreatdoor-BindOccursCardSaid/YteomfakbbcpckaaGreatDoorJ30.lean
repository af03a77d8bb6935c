/-
  Plain facts and contracts that the law's proof stands on, joined.
  Conditions: each fact's own.
-/
import Derived.Test.YteomfakbbcpckaaGreatDoorJ29
import Derived.Test.YteomfakbbcpckaaGreatDoorJ23
import Derived.Test.YteomfakbbcpckaaGreatDoorJ01
namespace Go.Proofs.YteomfakbbcpckaaGreatDoor
open Go.RowKit
open Lvl
open Trm
namespace Bnd
set_option maxRecDepth 100000 in
set_option maxHeartbeats 2000000 in
theorem lower_is (RN : ByteArray → Bool) (by' : Int) (t : Tm) (l s : Value) (w : World) (ht : TmP w (fun _ => True) t l s) (hnm : nmOk t) (CN : NameC w RN) (b : Bool) (hb : (!farB by' && (rightT RN 4 t 1125899906842624 && decide (cntT (fun n => decide (n < by')) t 0 = 0))) = b) :
  Calls Tryz.prog 16 #[tv t l s, .int .i64 by'] w (BRet w b (subT (raF (-by') by') t 0)) := by
 obtain ⟨i0, hi0, hz0, hz1, hz2⟩ := info_parts infoTm
 have HNK := Lib.hid hnm
 have HCN := Lib.hid CN
 have HBB := Lib.hid hb
 clear hnm CN hb
 obtain ⟨X, hX⟩ : ∃ X, subT (raF (-by') by') t 0 = X := ⟨_, rfl⟩
 have HX := Lib.hid hX
 rw [hX]
 obtain ⟨kx, hkx⟩ : ∃ q, tkOf X = q := ⟨_, rfl⟩
 obtain ⟨nx, hnx⟩ : ∃ q, tnOf X = q := ⟨_, rfl⟩
 obtain ⟨mx, hmx⟩ : ∃ q, tmOf X = q := ⟨_, rfl⟩
 have HXX := Lib.hid (And.intro hkx (And.intro hnx hmx))
 clear hX hkx hnx hmx
 obtain ⟨⟨la, ll, lc, rfl⟩, sa, sl, sc, rfl⟩ := tmP_slices ht
 have HTT := Lib.hid ht
 obtain ⟨k, hk⟩ : ∃ k, tkOf t = k := ⟨_, rfl⟩
 obtain ⟨n, hn⟩ : ∃ n, tnOf t = n := ⟨_, rfl⟩
 obtain ⟨m, hmm⟩ : ∃ m, tmOf t = m := ⟨_, rfl⟩
 dsimp only [tv]
 rw [hk, hn, hmm]
 have HK := Lib.hid hk
 have HNN := Lib.hid hn
 have HMM := Lib.hid hmm
 clear hk hn hmm ht
 go_enter Tryz.func16, Tryz.ntmps16
 go_upto_region 2 with fail
 have z1 : (w.alloc (.cells #[.int .i64 k, .int .i64 n, .string m, .slice la ll lc, .slice sa sl sc] 25)).heap.size = w.heap.size + 1 := by simp
 have z2 : ((w.alloc (.cells #[.int .i64 k, .int .i64 n, .string m, .slice la ll lc, .slice sa sl sc] 25)).alloc (.cells #[.int .i64 by'] 3)).heap.size = w.heap.size + 1 + 1 := by simp
 have z3 : (((w.alloc (.cells #[.int .i64 k, .int .i64 n, .string m, .slice la ll lc, .slice sa sl sc] 25)).alloc (.cells #[.int .i64 by'] 3)).alloc (.cells #[.int .i64 0, .int .i64 0, .string ⟨#[]⟩, .slice none 0 0, .slice none 0 0] 25)).heap.size = w.heap.size + 1 + 1 + 1 := by simp
 have r0 : (w.alloc (.cells #[.int .i64 k, .int .i64 n, .string m, .slice la ll lc, .slice sa sl sc] 25)).heap[w.heap.size]? = some (Obj.cells #[.int .i64 k, .int .i64 n, .string m, .slice la ll lc, .slice sa sl sc] 25 (0, 0)) := by
  have := heap_alloc_new w (.cells #[.int .i64 k, .int .i64 n, .string m, .slice la ll lc, .slice sa sl sc] 25)
  exact this
 have r1 : ((w.alloc (.cells #[.int .i64 k, .int .i64 n, .string m, .slice la ll lc, .slice sa sl sc] 25)).alloc (.cells #[.int .i64 by'] 3)).heap[w.heap.size + 1]? = some (Obj.cells #[.int .i64 by'] 3 (0, 0)) := by
  have := heap_alloc_new (w.alloc (.cells #[.int .i64 k, .int .i64 n, .string m, .slice la ll lc, .slice sa sl sc] 25)) (.cells #[.int .i64 by'] 3)
  rwa [z1] at this
 have r2 : (((w.alloc (.cells #[.int .i64 k, .int .i64 n, .string m, .slice la ll lc, .slice sa sl sc] 25)).alloc (.cells #[.int .i64 by'] 3)).alloc (.cells #[.int .i64 0, .int .i64 0, .string ⟨#[]⟩, .slice none 0 0, .slice none 0 0] 25)).heap[w.heap.size + 1 + 1]? = some (Obj.cells #[.int .i64 0, .int .i64 0, .string ⟨#[]⟩, .slice none 0 0, .slice none 0 0] 25 (0, 0)) := by
  have := heap_alloc_new ((w.alloc (.cells #[.int .i64 k, .int .i64 n, .string m, .slice la ll lc, .slice sa sl sc] 25)).alloc (.cells #[.int .i64 by'] 3)) (.cells #[.int .i64 0, .int .i64 0, .string ⟨#[]⟩, .slice none 0 0, .slice none 0 0] 25)
  rwa [z2] at this
 have HB := Lib.hid (((below_lit w (.cells #[.int .i64 k, .int .i64 n, .string m, .slice la ll lc, .slice sa sl sc] 25)).trans ((below_lit (w.alloc (.cells #[.int .i64 k, .int .i64 n, .string m, .slice la ll lc, .slice sa sl sc] 25)) (.cells #[.int .i64 by'] 3)).mono (below_lit w (.cells #[.int .i64 k, .int .i64 n, .string m, .slice la ll lc, .slice sa sl sc] 25)).size)).trans ((below_lit ((w.alloc (.cells #[.int .i64 k, .int .i64 n, .string m, .slice la ll lc, .slice sa sl sc] 25)).alloc (.cells #[.int .i64 by'] 3)) (.cells #[.int .i64 0, .int .i64 0, .string ⟨#[]⟩, .slice none 0 0, .slice none 0 0] 25)).mono ((below_lit w (.cells #[.int .i64 k, .int .i64 n, .string m, .slice la ll lc, .slice sa sl sc] 25)).trans ((below_lit (w.alloc (.cells #[.int .i64 k, .int .i64 n, .string m, .slice la ll lc, .slice sa sl sc] 25)) (.cells #[.int .i64 by'] 3)).mono (below_lit w (.cells #[.int .i64 k, .int .i64 n, .string m, .slice la ll lc, .slice sa sl sc] 25)).size)).size))
 have HR0 := Lib.hid ((heap_alloc_old ((w.alloc (.cells #[.int .i64 k, .int .i64 n, .string m, .slice la ll lc, .slice sa sl sc] 25)).alloc (.cells #[.int .i64 by'] 3)) (.cells #[.int .i64 0, .int .i64 0, .string ⟨#[]⟩, .slice none 0 0, .slice none 0 0] 25) (by rw [z2]; omega)).trans ((heap_alloc_old (w.alloc (.cells #[.int .i64 k, .int .i64 n, .string m, .slice la ll lc, .slice sa sl sc] 25)) (.cells #[.int .i64 by'] 3) (by rw [z1]; omega)).trans (r0)))
 have HR1 := Lib.hid ((heap_alloc_old ((w.alloc (.cells #[.int .i64 k, .int .i64 n, .string m, .slice la ll lc, .slice sa sl sc] 25)).alloc (.cells #[.int .i64 by'] 3)) (.cells #[.int .i64 0, .int .i64 0, .string ⟨#[]⟩, .slice none 0 0, .slice none 0 0] 25) (by rw [z2]; omega)).trans (r1))
 have HR2 := Lib.hid (r2)
 clear r0 r1 r2
 generalize (((w.alloc (.cells #[.int .i64 k, .int .i64 n, .string m, .slice la ll lc, .slice sa sl sc] 25)).alloc (.cells #[.int .i64 by'] 3)).alloc (.cells #[.int .i64 0, .int .i64 0, .string ⟨#[]⟩, .slice none 0 0, .slice none 0 0] 25)) = W at *
 have HZ := Lib.hid z3
 clear z1 z2 z3
 have hz := HZ.out
 have HKR : Hid (∀ W', Below W.heap.size W W' → W'.heap[w.heap.size]? = some (Obj.cells #[.int .i64 k, .int .i64 n, .string m, .slice la ll lc, .slice sa sl sc] 25 (0, 0)) ∧ W'.heap[w.heap.size + 1 + 1]? = some (Obj.cells #[.int .i64 0, .int .i64 0, .string ⟨#[]⟩, .slice none 0 0, .slice none 0 0] 25 (0, 0))) := fun W' h => ⟨(h.block w.heap.size (by omega)).trans HR0.out, (h.block (w.heap.size + 1 + 1) (by omega)).trans HR2.out⟩
 have HKB : Hid (∀ W', Below W.heap.size W W' → W'.heap[w.heap.size + 1]? = some (Obj.cells #[.int .i64 by'] 3 (0, 0))) := fun W' h => (h.block (w.heap.size + 1) (by omega)).trans HR1.out
 have HW : Hid (Below W.heap.size W W) := Below.refl _ _
 have c0 := cell_of_row _ _ 0 _ 3 (0, 0) HR1.out
 clear HR0 HR1 HR2
 obtain ⟨f1, hf1⟩ : ∃ q, farB by' = q := ⟨_, rfl⟩
 have HF := Lib.hid hf1
 rw [hf1] at HBB
 clear hf1
 go_wp2_with fail
 refine (isFar_is by' W f1 HF.out).mono ?_
 rintro e v2 ⟨rfl, hbq⟩
 have Hv2 := Lib.hid (HW.out.trans (hbq.mono HW.out.size))
 clear hbq 
 clear c0
 cases f1 with
 | true =>
  obtain rfl : b = false := by rw [← HBB.out]; rfl
  have hrz := (HKR.out _ Hv2.out).2
  obtain ⟨e0, e1, e2, e3, e4⟩ := five_cells hrz
  have g0 := frozen0 (p := 0) hrz
  have g1 := frozen0 (p := 1) hrz
  have g2 := frozen0 (p := 2) hrz
  have g3 := frozen0 (p := 3) hrz
  have g4 := frozen0 (p := 4) hrz
  go_wp2_with fail
  refine bodyPost_ret (results_row_tmp rfl _ _ (w.heap.size + 1 + 1) 25 _ (0, 0) _ rfl (set5_row hrz) Tryz.underlying25 rfl (by rw [hi0, Option.map_some, hz1]; rfl)) rfl ?_
  unfold BRet
  rw [if_neg (by simp)]
  exact ⟨set5_below (HB.out.trans (Hv2.out.mono HB.out.size)) _ 0 _ _ _ _ _ (by omega), rfl⟩
 | false =>
  have hbb := farB_no HF.out
  obtain ⟨rb, hrb⟩ : ∃ q, rightT RN 4 t 1125899906842624 = q := ⟨_, rfl⟩
  have HRB := Lib.hid hrb
  rw [hrb] at HBB
  clear hrb
  obtain ⟨a0, a1, a2, a3, a4⟩ := five_cells (HKR.out v2 Hv2.out).1
  have hbx := below_lit v2 (.cells #[.int .i64 k, .int .i64 n, .string m, .slice la ll lc, .slice sa sl sc] 25)
  have HRX : Hid (TsP (v2.alloc (.cells #[.int .i64 k, .int .i64 n, .string m, .slice la ll lc, .slice sa sl sc] 25)) (fun _ => True) (some ⟨v2.heap.size, 0, none⟩) 0 [t]) := tsP_row (ts := [t]) (ss := [(.slice la ll lc, .slice sa sl sc)]) rfl (by
   have := heap_alloc_new v2 (.cells #[.int .i64 k, .int .i64 n, .string m, .slice la ll lc, .slice sa sl sc] 25)
   rw [← HK.out, ← HNN.out, ← HMM.out] at this ⊢
   exact this) trivial (fun i h1 h2 => by
   obtain rfl : i = 0 := by simp at h1; omega
   exact tmP_below (HB.out.trans ((Hv2.out.trans (hbx.mono Hv2.out.size)).mono HB.out.size)) (tmP_weak (fun _ _ => trivial) HTT.out))
  have HBX := Lib.hid hbx
  clear hbx
  go_wp2_with fail
  refine (are_is RN [t] _ 1 1 _ HRX.out rfl (by omega) (by rw [nmOkL, nmOkL]; exact ⟨HNK.out, trivial⟩) (HCN.out.below (HB.out.trans ((Hv2.out.trans (HBX.out.mono Hv2.out.size)).mono HB.out.size))) rb (by have := HRB.out; simpa [areB] using this)).mono ?_
  rintro e v3 ⟨rfl, hbq⟩
  have Hv3 := Lib.hid (Hv2.out.trans ((HBX.out.trans (hbq.mono HBX.out.size)).mono Hv2.out.size))
  clear hbq HRX HBX
  clear a0 a1 a2 a3 a4
  cases rb with
  | false =>
   obtain rfl : b = false := by rw [← HBB.out]; rfl
   have hrz := (HKR.out _ Hv3.out).2
   obtain ⟨e0, e1, e2, e3, e4⟩ := five_cells hrz
   have g0 := frozen0 (p := 0) hrz
   have g1 := frozen0 (p := 1) hrz
   have g2 := frozen0 (p := 2) hrz
   have g3 := frozen0 (p := 3) hrz
   have g4 := frozen0 (p := 4) hrz
   go_wp2_with fail
   refine bodyPost_ret (results_row_tmp rfl _ _ (w.heap.size + 1 + 1) 25 _ (0, 0) _ rfl (set5_row hrz) Tryz.underlying25 rfl (by rw [hi0, Option.map_some, hz1]; rfl)) rfl ?_
   unfold BRet
   rw [if_neg (by simp)]
   exact ⟨set5_below (HB.out.trans (Hv3.out.mono HB.out.size)) _ 0 _ _ _ _ _ (by omega), rfl⟩
  | true =>
   have HTN := Lib.hid (rightT_ok HRB.out).2.1
   obtain ⟨cc, hcc⟩ : ∃ c, cntT (fun n => decide (n < by')) t 0 = c := ⟨_, rfl⟩
   rw [hcc] at HBB
   have hcall := cnt_low RN (w.heap.size + 1) (fun n => decide (n < by')) t (.slice la ll lc) (.slice sa sl sc) v3 (is_low v3 _ by' (cell_of_row _ _ 0 _ 3 (0, 0) (HKB.out v3 Hv3.out))) HRB.out (tmP_below (HB.out.trans (Hv3.out.mono HB.out.size)) (tmP_weak (fun _ _ => trivial) HTT.out))
   rw [hcc] at hcall
   dsimp only [tv] at hcall
   rw [HK.out, HNN.out, HMM.out] at hcall
   have HCALL := Lib.hid hcall
   clear hcall hcc
   obtain ⟨a0, a1, a2, a3, a4⟩ := five_cells (HKR.out v3 Hv3.out).1
   go_wp2_with fail
   refine (HCALL.out).mono ?_
   rintro e v4 ⟨rfl, hbq⟩
   have Hv4 := Lib.hid (Hv3.out.trans (hbq.mono Hv3.out.size))
   clear hbq HCALL a0 a1 a2 a3 a4
   by_cases hc0 : cc = 0
   ·subst hc0
    obtain rfl : b = true := by rw [← HBB.out]; rfl
    have hwn : IntKind.i64.wrap (-by') = -by' := IntWalk.i64_in _ ⟨by omega, by omega⟩
    have hk4 : Hid (∀ W', Below W.heap.size W W' → W'.cell? ⟨w.heap.size, 0, none⟩ = some (.int .i64 k) ∧ W'.cell? ⟨w.heap.size, 1, none⟩ = some (.int .i64 n) ∧ W'.cell? ⟨w.heap.size, 2, none⟩ = some (.string m) ∧ W'.cell? ⟨w.heap.size, 3, none⟩ = some (.slice la ll lc) ∧ W'.cell? ⟨w.heap.size, 4, none⟩ = some (.slice sa sl sc) ∧ W'.cell? ⟨w.heap.size + 1, 0, none⟩ = some (.int .i64 by')) := fun W' h => by
     obtain ⟨y0, y1, y2, y3, y4⟩ := five_cells (HKR.out W' h).1
     exact ⟨y0, y1, y2, y3, y4, cell_of_row _ _ 0 _ 3 (0, 0) (HKB.out W' h)⟩
    have HX2 : Hid (tnodes X ≤ 2000) := by
     have : tnodes X ≤ 2000 := by rw [← HX.out, right_nodes (-by') by' HRB.out]; exact HTN.out
     exact this
    go_upto_region 4 with fail
    refine wp_region_held_drew (S := fun W' => W'.cell? ⟨w.heap.size, 0, none⟩ = some (.int .i64 k) ∧ W'.cell? ⟨w.heap.size, 1, none⟩ = some (.int .i64 n) ∧ W'.cell? ⟨w.heap.size, 2, none⟩ = some (.string m) ∧ W'.cell? ⟨w.heap.size, 3, none⟩ = some (.slice la ll lc) ∧ W'.cell? ⟨w.heap.size, 4, none⟩ = some (.slice sa sl sc) ∧ W'.cell? ⟨w.heap.size + 1, 0, none⟩ = some (.int .i64 by')) (by kernel_rfl) (hk4.out _ (Hv4.out.trans (((Below.refl v4.heap.size v4).drew).mono Hv4.out.size))) (fun hHeld => ?_)
    refine take_in (i := 0) (v := ?_) rfl (by kernel_rfl) (by kernel_rfl) (by kernel_rfl) (fun _ _ _ h => h) (by rfl) ?_ hHeld ?_
    rotate_left
    ·intro w hSw
     (try dsimp only at hSw)
     go_simp
     try with_reducible rfl
    try simp only [Act.put, s1q, s2q, s3q]
    refine take_in (i := 1) (v := ?_) rfl (by kernel_rfl) (by kernel_rfl) (by kernel_rfl) (fun _ _ _ h => h) (by rfl) ?_ hHeld ?_
    rotate_left
    ·intro w hSw
     (try dsimp only at hSw)
     go_simp
     try with_reducible rfl
    try simp only [Act.put, s1q, s2q, s3q]
    refine take_in (i := 2) (v := ?_) rfl (by kernel_rfl) (by kernel_rfl) (by kernel_rfl) (fun _ _ _ h => h) (by rfl) ?_ hHeld ?_
    rotate_left
    ·intro w hSw
     (try dsimp only at hSw)
     go_simp
     try with_reducible rfl
    try simp only [Act.put, s1q, s2q, s3q]
    refine take_in (i := 3) (v := ?_) rfl (by kernel_rfl) (by kernel_rfl) (by kernel_rfl) (fun _ _ _ h => h) (by rfl) ?_ hHeld ?_
    rotate_left
    ·intro w hSw
     (try dsimp only at hSw)
     go_simp
     try with_reducible rfl
    try simp only [Act.put, s1q, s2q, s3q]
    refine call_in (i := 4) rfl (by kernel_rfl) (fun K hK => ?_)
    clear hHeld
    go_simp
    refine (braised_ex RN (-by') by' (by omega) (by omega) _).mono ?_
    rintro e v5 ⟨Bf, Bb, rfl, hpc, hbq⟩
    have HPC := Lib.hid hpc
    have Hv5 := Lib.hid (Hv4.out.trans (((Below.refl v4.heap.size v4).drew.trans hbq).mono Hv4.out.size))
    clear hpc hbq
    try (go_wp2_with fail)
    refine hK.out _ _ (hk4.out _ Hv5.out) (fun hHeld => ?_)
    clear hK K
    try simp only [Act.put, s1q, s2q, s3q]
    refine call_in (i := 5) rfl (by kernel_rfl) (fun K hK => ?_)
    clear hHeld
    go_simp
    have hw := with_raised Bf Bb (raF (-by') by') (cRa RN) t (.slice la ll lc) (.slice sa sl sc) v5 HPC.out (ra_few (-by') by') (by have := HTN.out; omega) (ra_leaves HRB.out) (tmP_below (HB.out.trans (Hv5.out.mono HB.out.size)) (tmP_weak (fun _ _ => trivial) HTT.out))
    dsimp only [tv] at hw
    rw [HK.out, HNN.out, HMM.out] at hw
    refine hw.mono ?_
    clear hw
    rintro e v6 ⟨hbq, hres⟩
    rw [HX.out, if_pos HX2.out] at hres
    obtain ⟨l9, s9, rfl, ht9⟩ := hres
    obtain ⟨⟨xa, xl, xc, rfl⟩, ya, yl, yc, rfl⟩ := tmP_slices ht9
    dsimp only [tv]
    rw [HXX.out.1, HXX.out.2.1, HXX.out.2.2]
    have HT9 := Lib.hid ht9
    have Hv6 := Lib.hid (Hv5.out.trans (hbq.mono Hv5.out.size))
    have hrz := (HKR.out v6 Hv6.out).2
    clear hbq ht9
    obtain ⟨e0, e1, e2, e3, e4⟩ := five_cells hrz
    have g0 := frozen0 (p := 0) hrz
    have g1 := frozen0 (p := 1) hrz
    have g2 := frozen0 (p := 2) hrz
    have g3 := frozen0 (p := 3) hrz
    have g4 := frozen0 (p := 4) hrz
    try (go_wp2_with fail)
    refine hK.out _ _ (hk4.out _ Hv6.out) (fun hHeld => ?_)
    clear hK K
    try simp only [Act.put, s1q, s2q, s3q]
    refine take_in (i := 6) (v := ?_) rfl (by kernel_rfl) (by kernel_rfl) (by kernel_rfl) (fun _ _ _ h => h) (by rfl) ?_ hHeld ?_
    rotate_left
    ·intro w hSw
     (try dsimp only at hSw)
     go_simp
     try with_reducible rfl
    try simp only [Act.put, s1q, s2q, s3q]
    refine take_in (i := 7) (v := ?_) rfl (by kernel_rfl) (by kernel_rfl) (by kernel_rfl) (fun _ _ _ h => h) (by rfl) ?_ hHeld ?_
    rotate_left
    ·intro w hSw
     (try dsimp only at hSw)
     go_simp
     try with_reducible rfl
    try simp only [Act.put, s1q, s2q, s3q]
    refine call_in (i := 8) rfl (by kernel_rfl) (fun K hK => ?_)
    clear hHeld
    go_simp
    try (go_wp2_with fail)
    refine hK.out _ _ ((by
     obtain ⟨y0, y1, y2, y3, y4⟩ := five_cells ((set5_far' v6 (w.heap.size + 1 + 1) 0 w.heap.size _ _ _ _ _ (by omega)).trans (HKR.out v6 Hv6.out).1)
     exact ⟨y0, y1, y2, y3, y4, cell_of_row _ _ 0 _ 3 (0, 0) ((set5_far' v6 (w.heap.size + 1 + 1) 0 (w.heap.size + 1) _ _ _ _ _ (by omega)).trans (HKB.out v6 Hv6.out))⟩)) (fun hHeld => ?_)
    clear hK K
    try simp only [Act.put, s1q, s2q, s3q]
    refine take_in (i := 9) (v := ?_) rfl (by kernel_rfl) (by kernel_rfl) (by kernel_rfl) (fun _ _ _ h => h) (by rfl) ?_ hHeld ?_
    rotate_left
    ·intro w hSw
     (try dsimp only at hSw)
     go_simp
     try with_reducible rfl
    try simp only [Act.put, s1q, s2q, s3q]
    refine wpAnyH_done (by kernel_rfl) ?_ _
    go_wp2_with fail
    refine bodyPost_ret (results_row_tmp rfl _ _ (w.heap.size + 1 + 1) 25 _ (0, 0) _ rfl (set5_row hrz) Tryz.underlying25 rfl (by rw [hi0, Option.map_some, hz1]; rfl)) rfl ?_
    have hz := HZ.out
    have h5 := Hv5.out.size
    refine ⟨set5_below (HB.out.trans (Hv6.out.mono HB.out.size)) _ 0 _ _ _ _ _ (by omega), ?_⟩
    rw [if_pos rfl]
    refine ⟨.slice xa xl xc, .slice ya yl yc, by dsimp only [tv]; rw [HXX.out.1, HXX.out.2.1, HXX.out.2.2]; rfl, ?_⟩
    exact tmP_move (w := v6) (fun b hlt (hp : v5.heap.size ≤ b) => ⟨by omega, set5_far' v6 (w.heap.size + 1 + 1) 0 b _ _ _ _ _ (by omega)⟩) (by rw [set5_sz]; exact Nat.le_refl _) _ _ _ HT9.out
   ·obtain rfl : b = false := by rw [← HBB.out]; simp [hc0]
    have hgt : decide ((0 : Int) < (cc : Int)) = true := by simp; omega
    have hgt2 : decide (0 < cc) = true := by simp; omega
    have hrz := (HKR.out _ Hv4.out).2
    obtain ⟨e0, e1, e2, e3, e4⟩ := five_cells hrz
    have g0 := frozen0 (p := 0) hrz
    have g1 := frozen0 (p := 1) hrz
    have g2 := frozen0 (p := 2) hrz
    have g3 := frozen0 (p := 3) hrz
    have g4 := frozen0 (p := 4) hrz
    go_wp2_with fail
    refine bodyPost_ret (results_row_tmp rfl _ _ (w.heap.size + 1 + 1) 25 _ (0, 0) _ rfl (set5_row hrz) Tryz.underlying25 rfl (by rw [hi0, Option.map_some, hz1]; rfl)) rfl ?_
    unfold BRet
    rw [if_neg (by simp)]
    exact ⟨set5_below (HB.out.trans (Hv4.out.mono HB.out.size)) _ 0 _ _ _ _ _ (by omega), rfl⟩
end Bnd
end Go.Proofs.YteomfakbbcpckaaGreatDoor
namespace Go.Proofs.YteomfakbbcpckaaGreatDoor
open Go.RowKit
open Lvl
open Trm
namespace Bnd
theorem with_repl (Bc0 Bc1 : Nat) (F : Tm → Nat → Tm) (C : Tm → Nat → Prop) (t : Tm) (l s : Value) (w : World) (hpc : PutC w 54 #[.pointer (some ⟨Bc0, 0, none⟩), .pointer (some ⟨Bc1, 0, none⟩)] F C) (hf : ∀ l d, C l d → tnodes (F l d) ≤ 100000) (hm : tnodes t ≤ 100000) (hall : allT C t 0) (ht : TmP w (fun _ => True) t l s) :
  Calls Tryz.prog 39 #[tv t l s, .func (.func 54) #[] #[.pointer (some ⟨Bc0, 0, none⟩), .pointer (some ⟨Bc1, 0, none⟩)]] w (WithRet (subT F t 0) w) :=
 with_gen 54 #[.pointer (some ⟨Bc0, 0, none⟩), .pointer (some ⟨Bc1, 0, none⟩)] F C t l s w (enters_of Tryz.func54 (by kernel_rfl) rfl) hpc hf hm hall ht
end Bnd
end Go.Proofs.YteomfakbbcpckaaGreatDoor
namespace Go.Proofs.YteomfakbbcpckaaGreatDoor
open Go.RowKit
open Lvl
open Trm
namespace Bnd
set_option maxRecDepth 100000 in
set_option maxHeartbeats 2500000 in
theorem re_few {RN : ByteArray → Bool} {nm : ByteArray} {u : Tm} (hu : rightT RN 4 u 1125899906842624 = true) (l : Tm) (d : Nat) (h : cRa RN l d) : tnodes (replF nm u l d) ≤ 100000 := by
 obtain ⟨K, _, hok, k, n, m, ls, rfl⟩ := h
 have hl := leaf_few hok
 rw [replF]
 split
 ·rw [right_nodes (d : Int) 0 hu]
  have := (rightT_ok hu).2.1
  omega
 ·omega
set_option maxRecDepth 100000 in
set_option maxHeartbeats 2500000 in
theorem put_repl (RN : ByteArray → Bool) (w0 : World) (Bn Bt : Nat) (nm : ByteArray) (u : Tm) (ua : Option Addr) (ul uc : Nat) (va : Option Addr) (vl vc : Nat) (hc : w0.cell? ⟨Bn, 0, none⟩ = some (.string nm)) (hr0 : w0.heap[Bt]? = some (.cells #[.int .i64 (tkOf u), .int .i64 (tnOf u), .string (tmOf u), .slice ua ul uc, .slice va vl vc] 25 (0, 0))) (htu : TmP w0 (fun _ => True) u (.slice ua ul uc) (.slice va vl vc)) (hur : rightT RN 4 u 1125899906842624 = true) :
  PutC w0 54 #[.pointer (some ⟨Bn, 0, none⟩), .pointer (some ⟨Bt, 0, none⟩)] (replF nm u) (cRa RN) := by
 intro w1 k n m ls l sa sc d hbw hl hd hC
 obtain ⟨i0, hi0, hz0, hz1, hz2⟩ := info_parts infoTm
 obtain ⟨K, hK, hok, _⟩ := hC
 have HL := Lib.hid hl
 obtain ⟨la, ll, lc, rfl⟩ := lvP_slice hl
 have HOK := Lib.hid hok
 have hc1 := (hbw.cell (p := ⟨Bn, 0, none⟩) (World.block_lt_of_cell? w0 ⟨Bn, 0, none⟩ hc)).trans hc
 have HC := Lib.hid (And.intro hc1 (World.block_lt_of_cell? w1 ⟨Bn, 0, none⟩ hc1))
 have hlt := (Array.getElem?_eq_some_iff.1 hr0).1
 have HRT := Lib.hid (And.intro ((hbw.block Bt hlt).trans hr0) (Nat.lt_of_lt_of_le hlt hbw.size))
 have HTU := Lib.hid (tmP_below hbw htu)
 have HUR := Lib.hid hur
 obtain ⟨ku, hku⟩ : ∃ q, tkOf u = q := ⟨_, rfl⟩
 obtain ⟨nu, hnu⟩ : ∃ q, tnOf u = q := ⟨_, rfl⟩
 obtain ⟨mu, hmu⟩ : ∃ q, tmOf u = q := ⟨_, rfl⟩
 rw [hku, hnu, hmu] at HRT
 have HUU := Lib.hid (And.intro hku (And.intro hnu hmu))
 clear hl hok hc hc1 hbw hr0 htu hur hku hnu hmu hlt
 show Calls Tryz.prog 54 #[.agg #[.int .i64 k, .int .i64 n, .string m, .slice la ll lc, .slice sa 0 sc, .int .i64 d], .pointer (some ⟨Bn, 0, none⟩), .pointer (some ⟨Bt, 0, none⟩)] w1 _
 obtain ⟨w, rfl⟩ : ∃ w, w = w1 := ⟨_, rfl⟩
 go_enter Tryz.func54, Tryz.ntmps54
 go_upto_region 1 with fail
 have z1 : (w.alloc (.cells #[.int .i64 k, .int .i64 n, .string m, .slice la ll lc, .slice sa 0 sc, .int .i64 d] 62)).heap.size = w.heap.size + 1 := by simp
 have z2 : ((w.alloc (.cells #[.int .i64 k, .int .i64 n, .string m, .slice la ll lc, .slice sa 0 sc, .int .i64 d] 62)).alloc (.cells #[.int .i64 0, .int .i64 0, .string ⟨#[]⟩, .slice none 0 0, .slice none 0 0] 25)).heap.size = w.heap.size + 1 + 1 := by simp
 have r0 : (w.alloc (.cells #[.int .i64 k, .int .i64 n, .string m, .slice la ll lc, .slice sa 0 sc, .int .i64 d] 62)).heap[w.heap.size]? = some (Obj.cells #[.int .i64 k, .int .i64 n, .string m, .slice la ll lc, .slice sa 0 sc, .int .i64 d] 62 (0, 0)) := by
  have := heap_alloc_new w (.cells #[.int .i64 k, .int .i64 n, .string m, .slice la ll lc, .slice sa 0 sc, .int .i64 d] 62)
  exact this
 have r1 : ((w.alloc (.cells #[.int .i64 k, .int .i64 n, .string m, .slice la ll lc, .slice sa 0 sc, .int .i64 d] 62)).alloc (.cells #[.int .i64 0, .int .i64 0, .string ⟨#[]⟩, .slice none 0 0, .slice none 0 0] 25)).heap[w.heap.size + 1]? = some (Obj.cells #[.int .i64 0, .int .i64 0, .string ⟨#[]⟩, .slice none 0 0, .slice none 0 0] 25 (0, 0)) := by
  have := heap_alloc_new (w.alloc (.cells #[.int .i64 k, .int .i64 n, .string m, .slice la ll lc, .slice sa 0 sc, .int .i64 d] 62)) (.cells #[.int .i64 0, .int .i64 0, .string ⟨#[]⟩, .slice none 0 0, .slice none 0 0] 25)
  rwa [z1] at this
 have HB := Lib.hid ((below_lit w (.cells #[.int .i64 k, .int .i64 n, .string m, .slice la ll lc, .slice sa 0 sc, .int .i64 d] 62)).trans ((below_lit (w.alloc (.cells #[.int .i64 k, .int .i64 n, .string m, .slice la ll lc, .slice sa 0 sc, .int .i64 d] 62)) (.cells #[.int .i64 0, .int .i64 0, .string ⟨#[]⟩, .slice none 0 0, .slice none 0 0] 25)).mono (below_lit w (.cells #[.int .i64 k, .int .i64 n, .string m, .slice la ll lc, .slice sa 0 sc, .int .i64 d] 62)).size))
 have HRL := Lib.hid ((heap_alloc_old (w.alloc (.cells #[.int .i64 k, .int .i64 n, .string m, .slice la ll lc, .slice sa 0 sc, .int .i64 d] 62)) (.cells #[.int .i64 0, .int .i64 0, .string ⟨#[]⟩, .slice none 0 0, .slice none 0 0] 25) (by rw [z1]; omega)).trans (r0))
 have HRB := Lib.hid (r1)
 clear r0 r1
 generalize ((w.alloc (.cells #[.int .i64 k, .int .i64 n, .string m, .slice la ll lc, .slice sa 0 sc, .int .i64 d] 62)).alloc (.cells #[.int .i64 0, .int .i64 0, .string ⟨#[]⟩, .slice none 0 0, .slice none 0 0] 25)) = W at *
 have HZ := Lib.hid z2
 clear z1 z2
 obtain ⟨a0, a1, a2, a3, a4, a5⟩ := six_cells HRL.out
 have c0 := (HB.out.cell (p := ⟨Bn, 0, none⟩) HC.out.2).trans HC.out.1
 obtain ⟨b0, b1, b2, b3, b4⟩ := five_cells ((HB.out.block Bt HRT.out.2).trans HRT.out.1)
 have hplace := place_is RN k n m la ll lc sa 0 sc d u (.slice ua ul uc) (.slice va vl vc) W (tmP_below HB.out HTU.out) HUR.out hd
 dsimp only [tv] at hplace
 rw [HUU.out.1, HUU.out.2.1, HUU.out.2.2] at hplace
 have HPL := Lib.hid hplace
 clear hplace
 by_cases hk : k = 3
 ·subst hk
  by_cases hm : m = nm
  ·have hF : Hid (replF nm u (.mk 3 n m ls []) d = subT (raF (d : Int) 0) u 0) := by
    have : replF nm u (.mk 3 n m ls []) d = subT (raF (d : Int) 0) u 0 := by rw [replF, if_pos ⟨rfl, hm⟩]
    exact this
   have he : (m.toList == nm.toList) = true := by rw [bytes_eqb, decide_eq_true hm]
   obtain ⟨kx, hkx⟩ : ∃ q, tkOf (subT (raF (d : Int) 0) u 0) = q := ⟨_, rfl⟩
   obtain ⟨nx, hnx⟩ : ∃ q, tnOf (subT (raF (d : Int) 0) u 0) = q := ⟨_, rfl⟩
   obtain ⟨mx, hmx⟩ : ∃ q, tmOf (subT (raF (d : Int) 0) u 0) = q := ⟨_, rfl⟩
   have HXX := Lib.hid (And.intro hkx (And.intro hnx hmx))
   clear hm hkx hnx hmx
   go_wp2_with fail
   refine (HPL.out).mono ?_
   rintro e w9 ⟨l9, s9, rfl, ht9, hb9⟩
   obtain ⟨⟨xa, xl, xc, rfl⟩, ya, yl, yc, rfl⟩ := tmP_slices ht9
   have HT9 := Lib.hid ht9
   have hrz := (hb9.block (w.heap.size + 1) (Array.getElem?_eq_some_iff.1 HRB.out).1).trans HRB.out
   have HB9 := Lib.hid (HB.out.trans (hb9.mono HB.out.size))
   have HS9 := Lib.hid (Array.getElem?_eq_some_iff.1 HRB.out).1
   clear ht9 hb9
   clear a0 a1 a2 a3 a4 a5 b0 b1 b2 b3 b4 c0 he HPL
   dsimp only [tv]
   rw [HXX.out.1, HXX.out.2.1, HXX.out.2.2]
   obtain ⟨e0, e1, e2, e3, e4⟩ := five_cells hrz
   have g0 := frozen0 (p := 0) hrz
   have g1 := frozen0 (p := 1) hrz
   have g2 := frozen0 (p := 2) hrz
   have g3 := frozen0 (p := 3) hrz
   have g4 := frozen0 (p := 4) hrz
   go_wp2_with fail
   refine bodyPost_ret (results_cell_row rfl _ _ (w.heap.size + 1) 25 _ (0, 0) _ rfl (set5_row hrz) Tryz.underlying25 rfl (by rw [hi0, Option.map_some, hz1]; rfl)) rfl ?_
   rw [hF.out]
   refine ⟨.slice xa xl xc, .slice ya yl yc, by dsimp only [tv]; rw [HXX.out.1, HXX.out.2.1, HXX.out.2.2], tmP_move (w := w9) (fun b hlt (hp : W.heap.size ≤ b) => ⟨by have := HS9.out; omega, set5_far' w9 (w.heap.size + 1) 0 b _ _ _ _ _ (by have := HS9.out; omega)⟩) (Nat.le_of_eq (set5_sz w9 (w.heap.size + 1) 0 _ _ _ _ _).symm) _ _ _ HT9.out, set5_below HB9.out _ 0 _ _ _ _ _ (by omega)⟩
  ·have hF : Hid (replF nm u (.mk 3 n m ls []) d = .mk 3 n m ls []) := by
    have : replF nm u (.mk 3 n m ls []) d = .mk 3 n m ls [] := by rw [replF, if_neg (fun h => hm h.2)]
    exact this
   have he : (m.toList == nm.toList) = false := by rw [bytes_eqb, decide_eq_false hm]
   clear hm
   go_wp2_with fail
   refine (lown_is RN 3 n m ls _ sa 0 sc d K W (lvP_move (w := w) (fun b hlt _ => ⟨trivial, HB.out.block b hlt⟩) HB.out.size _ _ HL.out) HOK.out).mono ?_
   rintro e w9 ⟨l9, s9, rfl, ht9, hb9⟩
   obtain ⟨⟨ua, ul, uc, rfl⟩, va, vl, vc, rfl⟩ := tmP_slices ht9
   have HT9 := Lib.hid ht9
   have hrz := (hb9.block (w.heap.size + 1) (Array.getElem?_eq_some_iff.1 HRB.out).1).trans HRB.out
   have HB9 := Lib.hid (HB.out.trans (hb9.mono HB.out.size))
   have HS9 := Lib.hid (Array.getElem?_eq_some_iff.1 HRB.out).1
   clear ht9 hb9
   clear a0 a1 a2 a3 a4 a5 b0 b1 b2 b3 b4 c0 he HPL
   dsimp only [tv, tkOf, tnOf, tmOf]
   obtain ⟨e0, e1, e2, e3, e4⟩ := five_cells hrz
   have g0 := frozen0 (p := 0) hrz
   have g1 := frozen0 (p := 1) hrz
   have g2 := frozen0 (p := 2) hrz
   have g3 := frozen0 (p := 3) hrz
   have g4 := frozen0 (p := 4) hrz
   go_wp2_with fail
   refine bodyPost_ret (results_cell_row rfl _ _ (w.heap.size + 1) 25 _ (0, 0) _ rfl (set5_row hrz) Tryz.underlying25 rfl (by rw [hi0, Option.map_some, hz1]; rfl)) rfl ?_
   rw [hF.out]
   refine ⟨_, _, rfl, tmP_move (w := w9) (fun b hlt (hp : W.heap.size ≤ b) => ⟨by have := HS9.out; omega, set5_far' w9 (w.heap.size + 1) 0 b _ _ _ _ _ (by have := HS9.out; omega)⟩) (Nat.le_of_eq (set5_sz w9 (w.heap.size + 1) 0 _ _ _ _ _).symm) _ _ _ HT9.out, set5_below HB9.out _ 0 _ _ _ _ _ (by omega)⟩
 ·have hF : Hid (replF nm u (.mk k n m ls []) d = .mk k n m ls []) := by
   have : replF nm u (.mk k n m ls []) d = .mk k n m ls [] := by rw [replF, if_neg (fun h => hk h.1)]
   exact this
  have hk3 : (k == 3) = false := by simp [hk]
  go_wp2_with fail
  refine (lown_is RN k n m ls _ sa 0 sc d K W (lvP_move (w := w) (fun b hlt _ => ⟨trivial, HB.out.block b hlt⟩) HB.out.size _ _ HL.out) HOK.out).mono ?_
  rintro e w9 ⟨l9, s9, rfl, ht9, hb9⟩
  obtain ⟨⟨ua, ul, uc, rfl⟩, va, vl, vc, rfl⟩ := tmP_slices ht9
  have HT9 := Lib.hid ht9
  have hrz := (hb9.block (w.heap.size + 1) (Array.getElem?_eq_some_iff.1 HRB.out).1).trans HRB.out
  have HB9 := Lib.hid (HB.out.trans (hb9.mono HB.out.size))
  have HS9 := Lib.hid (Array.getElem?_eq_some_iff.1 HRB.out).1
  clear ht9 hb9
  clear a0 a1 a2 a3 a4 a5 b0 b1 b2 b3 b4 c0 HPL
  dsimp only [tv, tkOf, tnOf, tmOf]
  obtain ⟨e0, e1, e2, e3, e4⟩ := five_cells hrz
  have g0 := frozen0 (p := 0) hrz
  have g1 := frozen0 (p := 1) hrz
  have g2 := frozen0 (p := 2) hrz
  have g3 := frozen0 (p := 3) hrz
  have g4 := frozen0 (p := 4) hrz
  go_wp2_with fail
  refine bodyPost_ret (results_cell_row rfl _ _ (w.heap.size + 1) 25 _ (0, 0) _ rfl (set5_row hrz) Tryz.underlying25 rfl (by rw [hi0, Option.map_some, hz1]; rfl)) rfl ?_
  rw [hF.out]
  refine ⟨_, _, rfl, tmP_move (w := w9) (fun b hlt (hp : W.heap.size ≤ b) => ⟨by have := HS9.out; omega, set5_far' w9 (w.heap.size + 1) 0 b _ _ _ _ _ (by have := HS9.out; omega)⟩) (Nat.le_of_eq (set5_sz w9 (w.heap.size + 1) 0 _ _ _ _ _).symm) _ _ _ HT9.out, set5_below HB9.out _ 0 _ _ _ _ _ (by omega)⟩
set_option maxRecDepth 100000 in
set_option maxHeartbeats 2500000 in
theorem replace_is (RN : ByteArray → Bool) (t : Tm) (l s : Value) (nm : ByteArray) (u : Tm) (lu su : Value) (w : World) (ht : TmP w (fun _ => True) t l s) (hnm : nmOk t) (htu : TmP w (fun _ => True) u lu su) (hnu : nmOk u) (CN : NameC w RN) (b : Bool) (hb : (areB RN [t, u] && decide (tnodes (subT (replF nm u) t 0) ≤ 2000)) = b) :
  Calls Tryz.prog 26 #[tv t l s, .string nm, tv u lu su] w (BRet w b (subT (replF nm u) t 0)) := by
 obtain ⟨i0, hi0, hz0, hz1, hz2⟩ := info_parts infoTm
 have HNK := Lib.hid hnm
 have HNU := Lib.hid hnu
 have HCN := Lib.hid CN
 obtain ⟨X, hX⟩ : ∃ X, subT (replF nm u) t 0 = X := ⟨_, rfl⟩
 have HX := Lib.hid hX
 rw [hX]
 obtain ⟨kx, hkx⟩ : ∃ q, tkOf X = q := ⟨_, rfl⟩
 obtain ⟨nx, hnx⟩ : ∃ q, tnOf X = q := ⟨_, rfl⟩
 obtain ⟨mx, hmx⟩ : ∃ q, tmOf X = q := ⟨_, rfl⟩
 have HXX := Lib.hid (And.intro hkx (And.intro hnx hmx))
 rw [hX] at hb
 have HBB := Lib.hid hb
 obtain ⟨⟨ua, ul, uc, rfl⟩, va, vl, vc, rfl⟩ := tmP_slices htu
 have HTU := Lib.hid htu
 clear hnm CN hb hX hkx hnx hmx htu hnu
 obtain ⟨⟨la, ll, lc, rfl⟩, sa, sl, sc, rfl⟩ := tmP_slices ht
 have HTT := Lib.hid ht
 obtain ⟨k, hk⟩ : ∃ k, tkOf t = k := ⟨_, rfl⟩
 obtain ⟨n, hn⟩ : ∃ n, tnOf t = n := ⟨_, rfl⟩
 obtain ⟨m, hmm⟩ : ∃ m, tmOf t = m := ⟨_, rfl⟩
 dsimp only [tv]
 rw [hk, hn, hmm]
 have HK := Lib.hid hk
 have HNN := Lib.hid hn
 have HMM := Lib.hid hmm
 clear hk hn hmm ht
 obtain ⟨ku, hku⟩ : ∃ q, tkOf u = q := ⟨_, rfl⟩
 obtain ⟨nu, hnu⟩ : ∃ q, tnOf u = q := ⟨_, rfl⟩
 obtain ⟨mu, hmu⟩ : ∃ q, tmOf u = q := ⟨_, rfl⟩
 rw [hku, hnu, hmu]
 have HUU := Lib.hid (And.intro hku (And.intro hnu hmu))
 clear hku hnu hmu
 go_enter Tryz.func26, Tryz.ntmps26
 go_upto_region 1 with fail
 have z1 : (w.alloc (.cells #[.int .i64 k, .int .i64 n, .string m, .slice la ll lc, .slice sa sl sc] 25)).heap.size = w.heap.size + 1 := by simp
 have z2 : ((w.alloc (.cells #[.int .i64 k, .int .i64 n, .string m, .slice la ll lc, .slice sa sl sc] 25)).alloc (.cells #[.string nm] 9)).heap.size = w.heap.size + 1 + 1 := by simp
 have z3 : (((w.alloc (.cells #[.int .i64 k, .int .i64 n, .string m, .slice la ll lc, .slice sa sl sc] 25)).alloc (.cells #[.string nm] 9)).alloc (.cells #[.int .i64 ku, .int .i64 nu, .string mu, .slice ua ul uc, .slice va vl vc] 25)).heap.size = w.heap.size + 1 + 1 + 1 := by simp
 have z4 : ((((w.alloc (.cells #[.int .i64 k, .int .i64 n, .string m, .slice la ll lc, .slice sa sl sc] 25)).alloc (.cells #[.string nm] 9)).alloc (.cells #[.int .i64 ku, .int .i64 nu, .string mu, .slice ua ul uc, .slice va vl vc] 25)).alloc (.cells #[.int .i64 0, .int .i64 0, .string ⟨#[]⟩, .slice none 0 0, .slice none 0 0] 25)).heap.size = w.heap.size + 1 + 1 + 1 + 1 := by simp
 have r0 : (w.alloc (.cells #[.int .i64 k, .int .i64 n, .string m, .slice la ll lc, .slice sa sl sc] 25)).heap[w.heap.size]? = some (Obj.cells #[.int .i64 k, .int .i64 n, .string m, .slice la ll lc, .slice sa sl sc] 25 (0, 0)) := by
  have := heap_alloc_new w (.cells #[.int .i64 k, .int .i64 n, .string m, .slice la ll lc, .slice sa sl sc] 25)
  exact this
 have r1 : ((w.alloc (.cells #[.int .i64 k, .int .i64 n, .string m, .slice la ll lc, .slice sa sl sc] 25)).alloc (.cells #[.string nm] 9)).heap[w.heap.size + 1]? = some (Obj.cells #[.string nm] 9 (0, 0)) := by
  have := heap_alloc_new (w.alloc (.cells #[.int .i64 k, .int .i64 n, .string m, .slice la ll lc, .slice sa sl sc] 25)) (.cells #[.string nm] 9)
  rwa [z1] at this
 have r2 : (((w.alloc (.cells #[.int .i64 k, .int .i64 n, .string m, .slice la ll lc, .slice sa sl sc] 25)).alloc (.cells #[.string nm] 9)).alloc (.cells #[.int .i64 ku, .int .i64 nu, .string mu, .slice ua ul uc, .slice va vl vc] 25)).heap[w.heap.size + 1 + 1]? = some (Obj.cells #[.int .i64 ku, .int .i64 nu, .string mu, .slice ua ul uc, .slice va vl vc] 25 (0, 0)) := by
  have := heap_alloc_new ((w.alloc (.cells #[.int .i64 k, .int .i64 n, .string m, .slice la ll lc, .slice sa sl sc] 25)).alloc (.cells #[.string nm] 9)) (.cells #[.int .i64 ku, .int .i64 nu, .string mu, .slice ua ul uc, .slice va vl vc] 25)
  rwa [z2] at this
 have r3 : ((((w.alloc (.cells #[.int .i64 k, .int .i64 n, .string m, .slice la ll lc, .slice sa sl sc] 25)).alloc (.cells #[.string nm] 9)).alloc (.cells #[.int .i64 ku, .int .i64 nu, .string mu, .slice ua ul uc, .slice va vl vc] 25)).alloc (.cells #[.int .i64 0, .int .i64 0, .string ⟨#[]⟩, .slice none 0 0, .slice none 0 0] 25)).heap[w.heap.size + 1 + 1 + 1]? = some (Obj.cells #[.int .i64 0, .int .i64 0, .string ⟨#[]⟩, .slice none 0 0, .slice none 0 0] 25 (0, 0)) := by
  have := heap_alloc_new (((w.alloc (.cells #[.int .i64 k, .int .i64 n, .string m, .slice la ll lc, .slice sa sl sc] 25)).alloc (.cells #[.string nm] 9)).alloc (.cells #[.int .i64 ku, .int .i64 nu, .string mu, .slice ua ul uc, .slice va vl vc] 25)) (.cells #[.int .i64 0, .int .i64 0, .string ⟨#[]⟩, .slice none 0 0, .slice none 0 0] 25)
  rwa [z3] at this
 have HB := Lib.hid ((((below_lit w (.cells #[.int .i64 k, .int .i64 n, .string m, .slice la ll lc, .slice sa sl sc] 25)).trans ((below_lit (w.alloc (.cells #[.int .i64 k, .int .i64 n, .string m, .slice la ll lc, .slice sa sl sc] 25)) (.cells #[.string nm] 9)).mono (below_lit w (.cells #[.int .i64 k, .int .i64 n, .string m, .slice la ll lc, .slice sa sl sc] 25)).size)).trans ((below_lit ((w.alloc (.cells #[.int .i64 k, .int .i64 n, .string m, .slice la ll lc, .slice sa sl sc] 25)).alloc (.cells #[.string nm] 9)) (.cells #[.int .i64 ku, .int .i64 nu, .string mu, .slice ua ul uc, .slice va vl vc] 25)).mono ((below_lit w (.cells #[.int .i64 k, .int .i64 n, .string m, .slice la ll lc, .slice sa sl sc] 25)).trans ((below_lit (w.alloc (.cells #[.int .i64 k, .int .i64 n, .string m, .slice la ll lc, .slice sa sl sc] 25)) (.cells #[.string nm] 9)).mono (below_lit w (.cells #[.int .i64 k, .int .i64 n, .string m, .slice la ll lc, .slice sa sl sc] 25)).size)).size)).trans ((below_lit (((w.alloc (.cells #[.int .i64 k, .int .i64 n, .string m, .slice la ll lc, .slice sa sl sc] 25)).alloc (.cells #[.string nm] 9)).alloc (.cells #[.int .i64 ku, .int .i64 nu, .string mu, .slice ua ul uc, .slice va vl vc] 25)) (.cells #[.int .i64 0, .int .i64 0, .string ⟨#[]⟩, .slice none 0 0, .slice none 0 0] 25)).mono (((below_lit w (.cells #[.int .i64 k, .int .i64 n, .string m, .slice la ll lc, .slice sa sl sc] 25)).trans ((below_lit (w.alloc (.cells #[.int .i64 k, .int .i64 n, .string m, .slice la ll lc, .slice sa sl sc] 25)) (.cells #[.string nm] 9)).mono (below_lit w (.cells #[.int .i64 k, .int .i64 n, .string m, .slice la ll lc, .slice sa sl sc] 25)).size)).trans ((below_lit ((w.alloc (.cells #[.int .i64 k, .int .i64 n, .string m, .slice la ll lc, .slice sa sl sc] 25)).alloc (.cells #[.string nm] 9)) (.cells #[.int .i64 ku, .int .i64 nu, .string mu, .slice ua ul uc, .slice va vl vc] 25)).mono ((below_lit w (.cells #[.int .i64 k, .int .i64 n, .string m, .slice la ll lc, .slice sa sl sc] 25)).trans ((below_lit (w.alloc (.cells #[.int .i64 k, .int .i64 n, .string m, .slice la ll lc, .slice sa sl sc] 25)) (.cells #[.string nm] 9)).mono (below_lit w (.cells #[.int .i64 k, .int .i64 n, .string m, .slice la ll lc, .slice sa sl sc] 25)).size)).size)).size))
 have HR0 := Lib.hid ((heap_alloc_old (((w.alloc (.cells #[.int .i64 k, .int .i64 n, .string m, .slice la ll lc, .slice sa sl sc] 25)).alloc (.cells #[.string nm] 9)).alloc (.cells #[.int .i64 ku, .int .i64 nu, .string mu, .slice ua ul uc, .slice va vl vc] 25)) (.cells #[.int .i64 0, .int .i64 0, .string ⟨#[]⟩, .slice none 0 0, .slice none 0 0] 25) (by rw [z3]; omega)).trans ((heap_alloc_old ((w.alloc (.cells #[.int .i64 k, .int .i64 n, .string m, .slice la ll lc, .slice sa sl sc] 25)).alloc (.cells #[.string nm] 9)) (.cells #[.int .i64 ku, .int .i64 nu, .string mu, .slice ua ul uc, .slice va vl vc] 25) (by rw [z2]; omega)).trans ((heap_alloc_old (w.alloc (.cells #[.int .i64 k, .int .i64 n, .string m, .slice la ll lc, .slice sa sl sc] 25)) (.cells #[.string nm] 9) (by rw [z1]; omega)).trans (r0))))
 have HR1 := Lib.hid ((heap_alloc_old (((w.alloc (.cells #[.int .i64 k, .int .i64 n, .string m, .slice la ll lc, .slice sa sl sc] 25)).alloc (.cells #[.string nm] 9)).alloc (.cells #[.int .i64 ku, .int .i64 nu, .string mu, .slice ua ul uc, .slice va vl vc] 25)) (.cells #[.int .i64 0, .int .i64 0, .string ⟨#[]⟩, .slice none 0 0, .slice none 0 0] 25) (by rw [z3]; omega)).trans ((heap_alloc_old ((w.alloc (.cells #[.int .i64 k, .int .i64 n, .string m, .slice la ll lc, .slice sa sl sc] 25)).alloc (.cells #[.string nm] 9)) (.cells #[.int .i64 ku, .int .i64 nu, .string mu, .slice ua ul uc, .slice va vl vc] 25) (by rw [z2]; omega)).trans (r1)))
 have HR2 := Lib.hid ((heap_alloc_old (((w.alloc (.cells #[.int .i64 k, .int .i64 n, .string m, .slice la ll lc, .slice sa sl sc] 25)).alloc (.cells #[.string nm] 9)).alloc (.cells #[.int .i64 ku, .int .i64 nu, .string mu, .slice ua ul uc, .slice va vl vc] 25)) (.cells #[.int .i64 0, .int .i64 0, .string ⟨#[]⟩, .slice none 0 0, .slice none 0 0] 25) (by rw [z3]; omega)).trans (r2))
 have HR3 := Lib.hid (r3)
 clear r0 r1 r2 r3
 generalize ((((w.alloc (.cells #[.int .i64 k, .int .i64 n, .string m, .slice la ll lc, .slice sa sl sc] 25)).alloc (.cells #[.string nm] 9)).alloc (.cells #[.int .i64 ku, .int .i64 nu, .string mu, .slice ua ul uc, .slice va vl vc] 25)).alloc (.cells #[.int .i64 0, .int .i64 0, .string ⟨#[]⟩, .slice none 0 0, .slice none 0 0] 25)) = W at *
 have HZ := Lib.hid z4
 clear z1 z2 z3 z4
 have hz := HZ.out
 have HKR : Hid (∀ W', Below W.heap.size W W' → W'.heap[w.heap.size]? = some (Obj.cells #[.int .i64 k, .int .i64 n, .string m, .slice la ll lc, .slice sa sl sc] 25 (0, 0)) ∧ W'.heap[w.heap.size + 1 + 1 + 1]? = some (Obj.cells #[.int .i64 0, .int .i64 0, .string ⟨#[]⟩, .slice none 0 0, .slice none 0 0] 25 (0, 0))) := fun W' h => ⟨(h.block w.heap.size (by omega)).trans HR0.out, (h.block (w.heap.size + 1 + 1 + 1) (by omega)).trans HR3.out⟩
 have HKS : Hid (∀ W', Below W.heap.size W W' → W'.cell? ⟨w.heap.size + 1, 0, none⟩ = some (.string nm) ∧ W'.heap[w.heap.size + 1 + 1]? = some (Obj.cells #[.int .i64 ku, .int .i64 nu, .string mu, .slice ua ul uc, .slice va vl vc] 25 (0, 0))) := fun W' h => ⟨cell_of_row _ _ 0 _ 9 (0, 0) ((h.block (w.heap.size + 1) (by omega)).trans HR1.out), (h.block (w.heap.size + 1 + 1) (by omega)).trans HR2.out⟩
 have HW : Hid (Below W.heap.size W W) := Below.refl _ _
 clear HR0 HR1 HR2 HR3 hz
 obtain ⟨rb, hrb⟩ : ∃ q, areB RN [t, u] = q := ⟨_, rfl⟩
 have HRB := Lib.hid hrb
 rw [hrb] at HBB
 clear hrb
 obtain ⟨a0, a1, a2, a3, a4⟩ := five_cells (HKR.out W HW.out).1
 obtain ⟨b0, b1, b2, b3, b4⟩ := five_cells (HKS.out W HW.out).2
 have hbx := below_lit W (.cells #[.int .i64 k, .int .i64 n, .string m, .slice la ll lc, .slice sa sl sc, .int .i64 ku, .int .i64 nu, .string mu, .slice ua ul uc, .slice va vl vc] 25)
 have HRX : Hid (TsP (W.alloc (.cells #[.int .i64 k, .int .i64 n, .string m, .slice la ll lc, .slice sa sl sc, .int .i64 ku, .int .i64 nu, .string mu, .slice ua ul uc, .slice va vl vc] 25)) (fun _ => True) (some ⟨W.heap.size, 0, none⟩) 0 [t, u]) := tsP_row (ts := [t, u]) (ss := [(.slice la ll lc, .slice sa sl sc), (.slice ua ul uc, .slice va vl vc)]) rfl (by
  have := heap_alloc_new W (.cells #[.int .i64 k, .int .i64 n, .string m, .slice la ll lc, .slice sa sl sc, .int .i64 ku, .int .i64 nu, .string mu, .slice ua ul uc, .slice va vl vc] 25)
  rw [← HK.out, ← HNN.out, ← HMM.out, ← HUU.out.1, ← HUU.out.2.1, ← HUU.out.2.2] at this ⊢
  exact this) trivial (fun i h1 h2 => by
  have hi : i = 0 ∨ i = 1 := by simp at h1; omega
  rcases hi with rfl | rfl
  ·exact tmP_below (HB.out.trans (hbx.mono HB.out.size)) (tmP_weak (fun _ _ => trivial) HTT.out)
  ·exact tmP_below (HB.out.trans (hbx.mono HB.out.size)) (tmP_weak (fun _ _ => trivial) HTU.out))
 have HBX := Lib.hid hbx
 clear hbx
 go_wp2_with fail
 refine (are_is RN [t, u] _ 2 2 _ HRX.out rfl (by omega) (by rw [nmOkL, nmOkL, nmOkL]; exact ⟨HNK.out, HNU.out, trivial⟩) (HCN.out.below (HB.out.trans (HBX.out.mono HB.out.size))) rb HRB.out).mono ?_
 rintro e v3 ⟨rfl, hbq⟩
 have Hv3 := Lib.hid (HBX.out.trans (hbq.mono HBX.out.size))
 clear hbq HRX HBX a0 a1 a2 a3 a4 b0 b1 b2 b3 b4
 cases rb with
 | false =>
  obtain rfl : b = false := by rw [← HBB.out]; rfl
  have hrz := (HKR.out _ Hv3.out).2
  obtain ⟨e0, e1, e2, e3, e4⟩ := five_cells hrz
  have g0 := frozen0 (p := 0) hrz
  have g1 := frozen0 (p := 1) hrz
  have g2 := frozen0 (p := 2) hrz
  have g3 := frozen0 (p := 3) hrz
  have g4 := frozen0 (p := 4) hrz
  go_wp2_with fail
  refine bodyPost_ret (results_row_tmp rfl _ _ (w.heap.size + 1 + 1 + 1) 25 _ (0, 0) _ rfl (set5_row hrz) Tryz.underlying25 rfl (by rw [hi0, Option.map_some, hz1]; rfl)) rfl ?_
  unfold BRet
  rw [if_neg (by simp)]
  exact ⟨set5_below (HB.out.trans (Hv3.out.mono HB.out.size)) _ 0 _ _ _ _ _ (by omega), rfl⟩
 | true =>
  have hboth : rightT RN 4 t 1125899906842624 = true ∧ rightT RN 4 u 1125899906842624 = true := by
   have := HRB.out
   simpa [areB] using this
  have HRT := Lib.hid hboth
  have HTN := Lib.hid (rightT_ok hboth.1).2.1
  clear hboth
  have hw := with_repl (w.heap.size + 1) (w.heap.size + 1 + 1) (replF nm u) (cRa RN) t (.slice la ll lc) (.slice sa sl sc) v3 (put_repl RN v3 (w.heap.size + 1) (w.heap.size + 1 + 1) nm u ua ul uc va vl vc (HKS.out v3 Hv3.out).1 (by rw [HUU.out.1, HUU.out.2.1, HUU.out.2.2]; exact (HKS.out v3 Hv3.out).2) (tmP_below (HB.out.trans (Hv3.out.mono HB.out.size)) HTU.out) HRT.out.2) (re_few HRT.out.2) (by have := HTN.out; omega) (ra_leaves HRT.out.1) (tmP_below (HB.out.trans (Hv3.out.mono HB.out.size)) (tmP_weak (fun _ _ => trivial) HTT.out))
  rw [HX.out] at hw
  dsimp only [tv] at hw
  rw [HK.out, HNN.out, HMM.out] at hw
  have HWC := Lib.hid hw
  clear hw
  by_cases hX2 : tnodes X ≤ 2000
  ·obtain rfl : b = true := by rw [← HBB.out]; simp [hX2]
   obtain ⟨a0, a1, a2, a3, a4⟩ := five_cells (HKR.out _ Hv3.out).1
   go_wp2_with fail
   refine HWC.out.mono ?_
   rintro e v6 ⟨hbq, hres⟩
   rw [if_pos hX2] at hres
   obtain ⟨l9, s9, rfl, ht9⟩ := hres
   obtain ⟨⟨xa, xl, xc, rfl⟩, ya, yl, yc, rfl⟩ := tmP_slices ht9
   dsimp only [tv]
   rw [HXX.out.1, HXX.out.2.1, HXX.out.2.2]
   have HT9 := Lib.hid ht9
   have Hv6 := Lib.hid (Hv3.out.trans (hbq.mono Hv3.out.size))
   have hrz := (HKR.out v6 Hv6.out).2
   clear hbq ht9 a0 a1 a2 a3 a4 HWC
   obtain ⟨e0, e1, e2, e3, e4⟩ := five_cells hrz
   have g0 := frozen0 (p := 0) hrz
   have g1 := frozen0 (p := 1) hrz
   have g2 := frozen0 (p := 2) hrz
   have g3 := frozen0 (p := 3) hrz
   have g4 := frozen0 (p := 4) hrz
   go_wp2_with fail
   refine bodyPost_ret (results_row_tmp rfl _ _ (w.heap.size + 1 + 1 + 1) 25 _ (0, 0) _ rfl (set5_row hrz) Tryz.underlying25 rfl (by rw [hi0, Option.map_some, hz1]; rfl)) rfl ?_
   have hz := HZ.out
   have h5 := Hv3.out.size
   refine ⟨set5_below (HB.out.trans (Hv6.out.mono HB.out.size)) _ 0 _ _ _ _ _ (by omega), ?_⟩
   rw [if_pos rfl]
   refine ⟨.slice xa xl xc, .slice ya yl yc, by dsimp only [tv]; rw [HXX.out.1, HXX.out.2.1, HXX.out.2.2]; rfl, ?_⟩
   exact tmP_move (w := v6) (fun b hlt (hp : v3.heap.size ≤ b) => ⟨by omega, set5_far' v6 (w.heap.size + 1 + 1 + 1) 0 b _ _ _ _ _ (by omega)⟩) (by rw [set5_sz]; exact Nat.le_refl _) _ _ _ HT9.out
  ·obtain rfl : b = false := by rw [← HBB.out]; simp [hX2]
   obtain ⟨a0, a1, a2, a3, a4⟩ := five_cells (HKR.out _ Hv3.out).1
   go_wp2_with fail
   refine HWC.out.mono ?_
   rintro e v6 ⟨hbq, hres⟩
   rw [if_neg hX2] at hres
   subst hres
   have Hv6 := Lib.hid (Hv3.out.trans (hbq.mono Hv3.out.size))
   clear hbq a0 a1 a2 a3 a4 HWC
   have hrz := (HKR.out _ Hv6.out).2
   obtain ⟨e0, e1, e2, e3, e4⟩ := five_cells hrz
   have g0 := frozen0 (p := 0) hrz
   have g1 := frozen0 (p := 1) hrz
   have g2 := frozen0 (p := 2) hrz
   have g3 := frozen0 (p := 3) hrz
   have g4 := frozen0 (p := 4) hrz
   go_wp2_with fail
   refine bodyPost_ret (results_row_tmp rfl _ _ (w.heap.size + 1 + 1 + 1) 25 _ (0, 0) _ rfl (set5_row hrz) Tryz.underlying25 rfl (by rw [hi0, Option.map_some, hz1]; rfl)) rfl ?_
   unfold BRet
   rw [if_neg (by simp)]
   exact ⟨set5_below (HB.out.trans (Hv6.out.mono HB.out.size)) _ 0 _ _ _ _ _ (by omega), rfl⟩
end Bnd
end Go.Proofs.YteomfakbbcpckaaGreatDoor
namespace Go.Proofs.YteomfakbbcpckaaGreatDoor
open Go.RowKit
open Lvl
open Trm
namespace Bnd
theorem with_abs (Bc0 Bc1 Bc2 : Nat) (F : Tm → Nat → Tm) (C : Tm → Nat → Prop) (t : Tm) (l s : Value) (w : World) (hpc : PutC w 50 #[.pointer (some ⟨Bc0, 0, none⟩), .pointer (some ⟨Bc1, 0, none⟩), .pointer (some ⟨Bc2, 0, none⟩)] F C) (hf : ∀ l d, C l d → tnodes (F l d) ≤ 100000) (hm : tnodes t ≤ 100000) (hall : allT C t 0) (ht : TmP w (fun _ => True) t l s) :
  Calls Tryz.prog 39 #[tv t l s, .func (.func 50) #[] #[.pointer (some ⟨Bc0, 0, none⟩), .pointer (some ⟨Bc1, 0, none⟩), .pointer (some ⟨Bc2, 0, none⟩)]] w (WithRet (subT F t 0) w) :=
 with_gen 50 #[.pointer (some ⟨Bc0, 0, none⟩), .pointer (some ⟨Bc1, 0, none⟩), .pointer (some ⟨Bc2, 0, none⟩)] F C t l s w (enters_of Tryz.func50 (by kernel_rfl) rfl) hpc hf hm hall ht
end Bnd
end Go.Proofs.YteomfakbbcpckaaGreatDoor
