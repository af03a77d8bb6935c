/-
  The law ArenaParts, walked: whatever comes in, it returns true, and nothing that was there turns.
  Conditions: the term lies in memory as told by 'TmV', its names take at most 2^47 bytes each; name.Right's contract; the laws' own check 'alive' returns true.
-/
import Derived.Test.YtbkdecgfiiajnaaDoorJ33
import Derived.Test.YtbkdecgfiiajnaaDoorJ36
import Derived.Test.YtbkdecgfiiajnaaDoorJ12
import Derived.Deep.DeepCutAuto
namespace Go.Proofs.YtbkdecgfiiajnaaDoor
open Go.RowKit Go.Maps
open Lvl
open Trm
namespace Arn
theorem len_nodesL : ∀ ts : List Tm, ts.length ≤ tnodesL ts
  | [] => Nat.zero_le _
  | t :: ts => by
    have h1 := tnodes_pos t
    have h2 := len_nodesL ts
    rw [tnodesL, List.length_cons]; omega
theorem lenA_le (t : Tm) : (taOf t).length ≤ tnodes t := by
  cases t with
  | mk k n m ls ts =>
  have h := len_nodesL ts
  rw [tnodes]
  exact Nat.le_trans h (Nat.le_add_left _ _)
theorem in_right {RN : ByteArray → Bool} {t : Tm} (h : rightT RN 4 t 1125899906842624 = true) : tnodes t ≤ 2000 := (rightT_ok h).2.1
set_option maxRecDepth 100000 in
set_option maxHeartbeats 4000000 in
theorem arenaParts_any (t : Tm) (v : Value) (w : World) (AL : ∀ w', Below w.heap.size w w' → Calls Tryd.prog 6 #[] w' (Ret w' (.bool true))) (CN : NameC w Nm.rightB) (hv : TmV w t v) (hnm : nmOk t) :
    Calls Tryd.prog 3 #[v] w (Ret w (.bool true)) := by
  have HAL := Lib.hid AL
  have HCN := Lib.hid CN
  have HNK := Lib.hid hnm
  clear AL CN hnm
  obtain ⟨b, hb⟩ : ∃ b, rightT Nm.rightB 4 t 1125899906842624 = b := ⟨_, rfl⟩
  have HBB := Lib.hid hb
  clear hb
  obtain ⟨l, s, rfl, ht⟩ := hv
  obtain ⟨⟨la, ll, lc, rfl⟩, sa, sl, sc, rfl⟩ := tmP_slices ht
  have HTT := Lib.hid ht
  obtain ⟨k, hk⟩ : ∃ k, tkOf t = k := ⟨_, rfl⟩
  obtain ⟨n, hn⟩ : ∃ n, tnOf t = n := ⟨_, rfl⟩
  obtain ⟨m, hmm⟩ : ∃ m, tmOf t = m := ⟨_, rfl⟩
  dsimp only [tv]
  rw [hk, hn, hmm]
  have HK := Lib.hid hk
  have HNN := Lib.hid hn
  have HMM := Lib.hid hmm
  clear hk hn hmm ht
  have hargs : ∃ ts : List Tm, taOf t = ts ∧ ts.length = sl ∧ sl ≤ sc ∧ TsP w (fun _ => True) sa 0 ts := by
    have ht0 := HTT.out
    cases t with
    | mk k' n' m' ls ts =>
    rw [TmP] at ht0
    obtain ⟨_, A', len', cap', e9, h1, h2, _, _, h5⟩ := ht0
    cases e9
    exact ⟨ts, rfl, h1, h2, h5⟩
  obtain ⟨ts, hta, hlen, hlc, hts⟩ := hargs
  have HTA := Lib.hid hta
  have HLEN := Lib.hid hlen
  have HTS := Lib.hid hts
  clear hta hlen hts
  go_enter Tryd.func3, Tryd.ntmps3
  go_wp2_with fail
  have z1 : (w.alloc (.cells #[.int .i64 k, .int .i64 n, .string m, .slice la ll lc, .slice sa sl sc] 25)).heap.size = w.heap.size + 1 := by simp
  have r0 : (w.alloc (.cells #[.int .i64 k, .int .i64 n, .string m, .slice la ll lc, .slice sa sl sc] 25)).heap[w.heap.size]? = some (Obj.cells #[.int .i64 k, .int .i64 n, .string m, .slice la ll lc, .slice sa sl sc] 25 (0, 0)) := by
    have := heap_alloc_new w (.cells #[.int .i64 k, .int .i64 n, .string m, .slice la ll lc, .slice sa sl sc] 25)
    exact this
  have HB := Lib.hid (below_lit w (.cells #[.int .i64 k, .int .i64 n, .string m, .slice la ll lc, .slice sa sl sc] 25))
  have HRW0 := Lib.hid (r0)
  clear r0
  generalize (w.alloc (.cells #[.int .i64 k, .int .i64 n, .string m, .slice la ll lc, .slice sa sl sc] 25)) = W at *
  have HZ := Lib.hid z1
  clear z1
  have hk : Hid (∀ W', Below W.heap.size W W' → W'.cell? ⟨w.heap.size, 0, none⟩ = some (.int .i64 k) ∧ W'.cell? ⟨w.heap.size, 1, none⟩ = some (.int .i64 n) ∧ W'.cell? ⟨w.heap.size, 2, none⟩ = some (.string m) ∧ W'.cell? ⟨w.heap.size, 3, none⟩ = some (.slice la ll lc) ∧ W'.cell? ⟨w.heap.size, 4, none⟩ = some (.slice sa sl sc)) := fun W' h => five_cells ((h.block w.heap.size (by rw [HZ.out]; omega)).trans HRW0.out)
  have HTV : Hid (TmV W t (.agg #[.int .i64 k, .int .i64 n, .string m, .slice la ll lc, .slice sa sl sc])) := by
    have : TmV W t (.agg #[.int .i64 k, .int .i64 n, .string m, .slice la ll lc, .slice sa sl sc]) := ⟨_, _, by rw [← HK.out, ← HNN.out, ← HMM.out], tmP_below HB.out HTT.out⟩
    exact this
  have hzw := HZ.out
  clear HRW0
  refine (HAL.out W HB.out).mono ?_
  rintro e v1 ⟨rfl, hb⟩
  have HC1 := Lib.hid hb
  clear hb
  obtain ⟨a0, a1, a2, a3, a4⟩ := hk.out v1 HC1.out
  go_wp2_with fail
  have hbr := below_lit v1 (.cells #[.int .i64 k, .int .i64 n, .string m, .slice la ll lc, .slice sa sl sc] 25)
  have hrr := heap_alloc_new v1 (.cells #[.int .i64 k, .int .i64 n, .string m, .slice la ll lc, .slice sa sl sc] 25)
  have hzr : (v1.alloc (.cells #[.int .i64 k, .int .i64 n, .string m, .slice la ll lc, .slice sa sl sc] 25)).heap.size = v1.heap.size + 1 := by simp
  have hts1 : TsP (v1.alloc (.cells #[.int .i64 k, .int .i64 n, .string m, .slice la ll lc, .slice sa sl sc] 25)) (fun _ => True) (some ⟨v1.heap.size, 0, none⟩) 0 [t] := tsP_row (ts := [t]) (ss := [(.slice la ll lc, .slice sa sl sc)]) rfl (by
    have := hrr
    rw [← HK.out, ← HNN.out, ← HMM.out] at this ⊢
    exact this) trivial (fun i h1 h2 => by
    obtain rfl : i = 0 := by simp at h1; omega
    exact tmP_below (HB.out.trans ((HC1.out.trans (hbr.mono HC1.out.size)).mono HB.out.size)) HTT.out)
  refine (great1_is t v1.heap.size _ hts1 HNK.out).mono ?_
  rintro e v2 ⟨rfl, hb⟩
  have HC2 := Lib.hid (HC1.out.trans ((hbr.trans (hb.mono hbr.size)).mono HC1.out.size))
  clear hb hbr hrr hzr hts1 a0 a1 a2 a3 a4
  obtain ⟨a0, a1, a2, a3, a4⟩ := hk.out v2 HC2.out
  go_wp2_with fail
  refine (refAny_free t _ 4 v2 (HTV.out.below HC2.out) HNK.out (by decide) (by decide) b HBB.out).mono ?_
  rintro e v3 ⟨rfl, hb⟩
  have HC3 := Lib.hid (HC2.out.trans (hb.mono HC2.out.size))
  clear hb a0 a1 a2 a3 a4
  cases b with
  | false =>
    go_wp2_with fail
    go_ret
    exact ⟨rfl, HB.out.trans (HC3.out.mono HB.out.size)⟩
  | true =>
    have HN2 := Lib.hid (in_right HBB.out)
    obtain ⟨ns, num, hq, h0, hpt⟩ := parts_of (right_okH HBB.out HNK.out) HN2.out
    have HQ := Lib.hid hq
    have HP := Lib.hid hpt
    have hnp := hpt.pos
    have hnl : num ≤ 2000 := Nat.le_trans hpt.le HN2.out
    have HKD := Lib.hid (hpt.kd.trans HK.out)
    clear hq hpt
    go_wp2_with fail
    refine (new_is v3 1048576 (by decide) (by decide)).mono ?_
    rintro e v4 ⟨p, bm, rfl, ha4, hb4⟩
    have HC34 := Lib.hid hb4
    have HC4 := Lib.hid (HC3.out.trans (hb4.mono HC3.out.size))
    have HA4 := Lib.hid ha4
    have hpb := ha4.pb
    have hmb := ha4.mb
    have hs3 := HC3.out.size
    clear ha4 hb4
    obtain ⟨a0, a1, a2, a3, a4⟩ := hk.out v4 HC4.out
    go_wp2_with fail
    have hh := holds_is Nm.rightB t (.slice la ll lc) (.slice sa sl sc) v4 v3.heap.size p bm 1048576 (.slice none 0 0) [] HA4.out (by have := HA4.out.plt; omega) (Nat.le_trans HN2.out (by decide)) HNK.out (HCN.out.below (HB.out.trans (HC4.out.mono HB.out.size))) (tmP_move (w := w) (fun b hlt _ => ⟨⟨by omega, by omega, fun e => by cases e⟩, ((HB.out.trans (HC4.out.mono HB.out.size)).block b hlt)⟩) (HB.out.trans (HC4.out.mono HB.out.size)).size _ _ _ HTT.out) true HBB.out
    unfold HoldsRet HoldRet at hh
    simp only [HQ.out, if_true, if_neg h0] at hh
    dsimp only [tv] at hh
    rw [HK.out, HNN.out, HMM.out] at hh
    refine hh.mono ?_
    rintro e v5 ⟨V5, rfl, ha5, hk5⟩
    have HA5 := Lib.hid ha5
    have HC5 := Lib.hid (HC3.out.trans ((HC34.out.trans (hk5.below HA4.out (Nat.le_refl v3.heap.size))).mono HC3.out.size))
    clear ha5 hk5 hh a0 a1 a2 a3 a4
    go_upto_region 9 with fail
    have hk5 : Hid (∀ W', Below v5.heap.size v5 W' → W'.cell? ⟨w.heap.size, 0, none⟩ = some (.int .i64 k) ∧ W'.cell? ⟨w.heap.size, 1, none⟩ = some (.int .i64 n) ∧ W'.cell? ⟨w.heap.size, 2, none⟩ = some (.string m) ∧ W'.cell? ⟨w.heap.size, 3, none⟩ = some (.slice la ll lc) ∧ W'.cell? ⟨w.heap.size, 4, none⟩ = some (.slice sa sl sc)) := fun W' h => hk.out W' (HC5.out.trans (h.mono HC5.out.size))
    have HDy : Hid (Below v5.heap.size v5 v5.drew) := (Below.refl _ _).drew
    have n1 : ((num : Int) == (num : Int)) = true := by simp
    have n2 : (k == k) = true := by simp
    refine wp_region_held_drew (S := fun W' => W'.cell? ⟨w.heap.size, 0, none⟩ = some (.int .i64 k) ∧ W'.cell? ⟨w.heap.size, 1, none⟩ = some (.int .i64 n) ∧ W'.cell? ⟨w.heap.size, 2, none⟩ = some (.string m) ∧ W'.cell? ⟨w.heap.size, 3, none⟩ = some (.slice la ll lc) ∧ W'.cell? ⟨w.heap.size, 4, none⟩ = some (.slice sa sl sc)) (by kernel_rfl) (hk5.out _ HDy.out) (fun hHeld => ?_)
    refine take_in (i := 0) (v := ?_) rfl (by kernel_rfl) (by kernel_rfl) (by kernel_rfl) (fun _ _ _ h => h) (by rfl) ?_ hHeld ?_
    rotate_left
    · intro w hSw
      (try dsimp only at hSw)
      go_simp
      try with_reducible rfl
    try simp only [Act.put, List.setIfInBounds_toArray, List.set_cons_zero, List.set_cons_succ]
    refine take_in (i := 1) (v := ?_) rfl (by kernel_rfl) (by kernel_rfl) (by kernel_rfl) (fun _ _ _ h => h) (by rfl) ?_ hHeld ?_
    rotate_left
    · intro w hSw
      (try dsimp only at hSw)
      go_simp
      try with_reducible rfl
    try simp only [Act.put, List.setIfInBounds_toArray, List.set_cons_zero, List.set_cons_succ]
    refine take_in (i := 2) (v := ?_) rfl (by kernel_rfl) (by kernel_rfl) (by kernel_rfl) (fun _ _ _ h => h) (by rfl) ?_ hHeld ?_
    rotate_left
    · intro w hSw
      (try dsimp only at hSw)
      go_simp
      try with_reducible rfl
    try simp only [Act.put, List.setIfInBounds_toArray, List.set_cons_zero, List.set_cons_succ]
    refine take_in (i := 3) (v := ?_) rfl (by kernel_rfl) (by kernel_rfl) (by kernel_rfl) (fun _ _ _ h => h) (by rfl) ?_ hHeld ?_
    rotate_left
    · intro w hSw
      (try dsimp only at hSw)
      go_simp
      try with_reducible rfl
    try simp only [Act.put, List.setIfInBounds_toArray, List.set_cons_zero, List.set_cons_succ]
    refine take_in (i := 4) (v := ?_) rfl (by kernel_rfl) (by kernel_rfl) (by kernel_rfl) (fun _ _ _ h => h) (by rfl) ?_ hHeld ?_
    rotate_left
    · intro w hSw
      (try dsimp only at hSw)
      go_simp
      try with_reducible rfl
    try simp only [Act.put, List.setIfInBounds_toArray, List.set_cons_zero, List.set_cons_succ]
    refine call_in (i := 5) rfl (by kernel_rfl) (fun K hK => ?_)
    clear hHeld
    go_simp
    (go_at_call 11; refine (count_is _ v3.heap.size p bm 1048576 V5 ns (HA5.out.below HDy.out) num HP.out.last).mono ?_; rintro e y1 ⟨rfl, hb9⟩; have hy1 : Hid (Below v5.heap.size v5 y1) := HDy.out.trans (hb9.mono HDy.out.size); clear hb9)
    try (go_wp2_with fail)
    refine hK.out _ _ (hk5.out _ hy1.out) (fun hHeld => ?_)
    clear hK K
    try simp only [Act.put, List.setIfInBounds_toArray, List.set_cons_zero, List.set_cons_succ]
    refine take_in (i := 6) (v := ?_) rfl (by kernel_rfl) (by kernel_rfl) (by kernel_rfl) (fun _ _ _ h => h) (by rfl) ?_ hHeld ?_
    rotate_left
    · intro w hSw
      (try dsimp only at hSw)
      go_simp
      try with_reducible rfl
    try simp only [Act.put, List.setIfInBounds_toArray, List.set_cons_zero, List.set_cons_succ]
    refine take_in (i := 7) (v := ?_) rfl (by kernel_rfl) (by kernel_rfl) (by kernel_rfl) (fun _ _ _ h => h) (by rfl) ?_ hHeld ?_
    rotate_left
    · intro w hSw
      (try dsimp only at hSw)
      go_simp
      try with_reducible rfl
    try simp only [Act.put, List.setIfInBounds_toArray, List.set_cons_zero, List.set_cons_succ]
    refine take_in (i := 8) (v := ?_) rfl (by kernel_rfl) (by kernel_rfl) (by kernel_rfl) (fun _ _ _ h => h) (by rfl) ?_ hHeld ?_
    rotate_left
    · intro w hSw
      (try dsimp only at hSw)
      go_simp
      try with_reducible rfl
    try simp only [Act.put, List.setIfInBounds_toArray, List.set_cons_zero, List.set_cons_succ]
    refine take_in (i := 9) (v := ?_) rfl (by kernel_rfl) (by kernel_rfl) (by kernel_rfl) (fun _ _ _ h => h) (by rfl) ?_ hHeld ?_
    rotate_left
    · intro w hSw
      (try dsimp only at hSw)
      go_simp
      try with_reducible rfl
    try simp only [Act.put, List.setIfInBounds_toArray, List.set_cons_zero, List.set_cons_succ]
    refine take_in (i := 10) (v := ?_) rfl (by kernel_rfl) (by kernel_rfl) (by kernel_rfl) (fun _ _ _ h => h) (by rfl) ?_ hHeld ?_
    rotate_left
    · intro w hSw
      (try dsimp only at hSw)
      go_simp
      try with_reducible rfl
    try simp only [Act.put, List.setIfInBounds_toArray, List.set_cons_zero, List.set_cons_succ]
    refine take_in (i := 12) (v := ?_) rfl (by kernel_rfl) (by kernel_rfl) (by kernel_rfl) (fun _ _ _ h => h) (by rfl) ?_ hHeld ?_
    rotate_left
    · intro w hSw
      (try dsimp only at hSw)
      go_simp
      try with_reducible rfl
    try simp only [Act.put, List.setIfInBounds_toArray, List.set_cons_zero, List.set_cons_succ]
    refine call_in (i := 11) rfl (by kernel_rfl) (fun K hK => ?_)
    clear hHeld
    go_simp
    (go_at_call 12; refine (shared_is v3.heap.size p bm 1048576 V5 ns HP.out.ahead _ num (by omega) (HA5.out.below hy1.out) num HP.out.all).mono ?_; rintro e y2 ⟨rfl, hb9⟩; have hy2 : Hid (Below v5.heap.size v5 y2) := hy1.out.trans (hb9.mono hy1.out.size); clear hb9)
    try (go_wp2_with fail)
    refine hK.out _ _ (hk5.out _ hy2.out) (fun hHeld => ?_)
    clear hK K
    try simp only [Act.put, List.setIfInBounds_toArray, List.set_cons_zero, List.set_cons_succ]
    refine take_in (i := 13) (v := ?_) rfl (by kernel_rfl) (by kernel_rfl) (by kernel_rfl) (fun _ _ _ h => h) (by rfl) ?_ hHeld ?_
    rotate_left
    · intro w hSw
      (try dsimp only at hSw)
      go_simp
      try with_reducible rfl
    try simp only [Act.put, List.setIfInBounds_toArray, List.set_cons_zero, List.set_cons_succ]
    refine take_in (i := 14) (v := ?_) rfl (by kernel_rfl) (by kernel_rfl) (by kernel_rfl) (fun _ _ _ h => h) (by rfl) ?_ hHeld ?_
    rotate_left
    · intro w hSw
      (try dsimp only at hSw)
      go_simp
      try with_reducible rfl
    try simp only [Act.put, List.setIfInBounds_toArray, List.set_cons_zero, List.set_cons_succ]
    refine take_in (i := 15) (v := ?_) rfl (by kernel_rfl) (by kernel_rfl) (by kernel_rfl) (fun _ _ _ h => h) (by rfl) ?_ hHeld ?_
    rotate_left
    · intro w hSw
      (try dsimp only at hSw)
      go_simp
      try with_reducible rfl
    try simp only [Act.put, List.setIfInBounds_toArray, List.set_cons_zero, List.set_cons_succ]
    refine take_in (i := 16) (v := ?_) rfl (by kernel_rfl) (by kernel_rfl) (by kernel_rfl) (fun _ _ _ h => h) (by rfl) ?_ hHeld ?_
    rotate_left
    · intro w hSw
      (try dsimp only at hSw)
      go_simp
      try with_reducible rfl
    try simp only [Act.put, List.setIfInBounds_toArray, List.set_cons_zero, List.set_cons_succ]
    refine take_in (i := 17) (v := ?_) rfl (by kernel_rfl) (by kernel_rfl) (by kernel_rfl) (fun _ _ _ h => h) (by rfl) ?_ hHeld ?_
    rotate_left
    · intro w hSw
      (try dsimp only at hSw)
      go_simp
      try with_reducible rfl
    try simp only [Act.put, List.setIfInBounds_toArray, List.set_cons_zero, List.set_cons_succ]
    refine take_in (i := 19) (v := ?_) rfl (by kernel_rfl) (by kernel_rfl) (by kernel_rfl) (fun _ _ _ h => h) (by rfl) ?_ hHeld ?_
    rotate_left
    · intro w hSw
      (try dsimp only at hSw)
      go_simp
      try with_reducible rfl
    try simp only [Act.put, List.setIfInBounds_toArray, List.set_cons_zero, List.set_cons_succ]
    refine take_in (i := 20) (v := ?_) rfl (by kernel_rfl) (by kernel_rfl) (by kernel_rfl) (fun _ _ _ h => h) (by rfl) ?_ hHeld ?_
    rotate_left
    · intro w hSw
      (try dsimp only at hSw)
      go_simp
      try with_reducible rfl
    try simp only [Act.put, List.setIfInBounds_toArray, List.set_cons_zero, List.set_cons_succ]
    refine call_in (i := 18) rfl (by kernel_rfl) (fun K hK => ?_)
    clear hHeld
    go_simp
    (go_at_call 13; refine (kind_is _ v3.heap.size p bm 1048576 V5 ns (HA5.out.below hy2.out) (num : Nat) k HKD.out).mono ?_; rintro e y3 ⟨rfl, hb9⟩; have hy3 : Hid (Below v5.heap.size v5 y3) := hy2.out.trans (hb9.mono hy2.out.size); clear hb9)
    try (go_wp2_with fail)
    refine hK.out _ _ (hk5.out _ hy3.out) (fun hHeld => ?_)
    clear hK K
    try simp only [Act.put, List.setIfInBounds_toArray, List.set_cons_zero, List.set_cons_succ]
    refine take_in (i := 21) (v := ?_) rfl (by kernel_rfl) (by kernel_rfl) (by kernel_rfl) (fun _ _ _ h => h) (by rfl) ?_ hHeld ?_
    rotate_left
    · intro w hSw
      (try dsimp only at hSw)
      go_simp
      try with_reducible rfl
    try simp only [Act.put, List.setIfInBounds_toArray, List.set_cons_zero, List.set_cons_succ]
    refine take_in (i := 22) (v := ?_) rfl (by kernel_rfl) (by kernel_rfl) (by kernel_rfl) (fun _ _ _ h => h) (by rfl) ?_ hHeld ?_
    rotate_left
    · intro w hSw
      (try dsimp only at hSw)
      go_simp
      try with_reducible rfl
    try simp only [Act.put, List.setIfInBounds_toArray, List.set_cons_zero, List.set_cons_succ]
    refine wpAnyH_done (by kernel_rfl) ?_ _
    have HC6 := Lib.hid (HC5.out.trans (hy3.out.mono HC5.out.size))
    have HA6 := Lib.hid (HA5.out.below hy3.out)
    clear hk5 hy1 hy2 hy3 HDy n1 n2
    generalize y3 = v6 at *
    obtain ⟨a0, a1, a2, a3, a4⟩ := hk.out v6 HC6.out
    go_wp2_with fail
    go_loopw [6, 7, 8, 9] (fun i _ _ _ wr => ∃ j : Nat, j ≤ sl ∧ i = .int .i64 j ∧ Hid (Below v6.heap.size v6 wr)) (fun i _ _ _ _ => sl - (intOf i).toNat)
    case atStart => exact ⟨0, Nat.zero_le _, rfl, Below.refl _ _⟩
    case round =>
      obtain ⟨j, hj, rfl, hgr⟩ := hrel
      have HCr := Lib.hid (HC6.out.trans (hgr.out.mono HC6.out.size))
      have HAr := Lib.hid (HA6.out.below hgr.out)
      obtain ⟨a0, a1, a2, a3, a4⟩ := hk.out wr HCr.out
      by_cases hlt : j < sl
      · have hx1 : j < ts.length := by rw [HLEN.out]; exact hlt
        have hsl : j + 1 ≤ 2000 := by
          have h1 := lenA_le t
          rw [HTA.out] at h1
          have h2 := HN2.out
          omega
        have hln : decide ((j : Int) < (sl : Int)) = true := by simp; omega
        obtain ⟨bk, o, l1, s1, eA, hbs, _, hc0, hc1, hc2, hc3, hc4, htm⟩ := tsP_get HTS.out j hx1
        subst eA
        obtain ⟨⟨xa, xl, xc, rfl⟩, ya, yl, yc, rfl⟩ := tmP_slices htm
        obtain ⟨kj, hka1, hka2, hka3, hka4, hka5⟩ := HP.out.arg j (by rw [HTA.out]; exact hx1)
        have hpj : (taOf t)[j]'(by rw [HTA.out]; exact hx1) = ts[j] := by simp only [HTA.out]
        rw [hpj] at hka4
        have hokj : okH ts[j] := by
          have h1 := HP.out.ok
          have h2 := HTA.out
          cases t with
          | mk k' n' m' ls ts' =>
          rw [okH] at h1
          obtain rfl : ts' = ts := h2
          exact okHL_mem h1.2 _ (List.getElem_mem hx1)
        have HBw := Lib.hid (HB.out.trans (HCr.out.mono HB.out.size))
        have hke : Hid (∀ W', Below w.heap.size w W' → W'.cell? ⟨bk, o + j * 5, none⟩ = some (.int .i64 (tkOf ts[j])) ∧ W'.cell? ⟨bk, o + j * 5 + 1, none⟩ = some (.int .i64 (tnOf ts[j])) ∧ W'.cell? ⟨bk, o + j * 5 + 2, none⟩ = some (.string (tmOf ts[j])) ∧ W'.cell? ⟨bk, o + j * 5 + 3, none⟩ = some (.slice xa xl xc) ∧ W'.cell? ⟨bk, o + j * 5 + 4, none⟩ = some (.slice ya yl yc)) := fun W' h => ⟨(h.cell (p := ⟨bk, _, none⟩) hbs).trans hc0, (h.cell (p := ⟨bk, _, none⟩) hbs).trans hc1, (h.cell (p := ⟨bk, _, none⟩) hbs).trans hc2, (h.cell (p := ⟨bk, _, none⟩) hbs).trans hc3, (h.cell (p := ⟨bk, _, none⟩) hbs).trans hc4⟩
        have HTM := Lib.hid htm
        have HKA := Lib.hid hka1
        have HKH := Lib.hid hka4
        have HOKJ := Lib.hid hokj
        obtain ⟨sk, hsk⟩ : ∃ q, shared ns kj = q := ⟨_, rfl⟩
        have HSK := Lib.hid hsk
        rw [hsk] at hka5
        clear hc0 hc1 hc2 hc3 hc4 htm hka1 hka4 hokj hpj hsk
        generalize hka : tkOf ts[j] = ka at *
        generalize hna : tnOf ts[j] = na at *
        generalize hma : tmOf ts[j] = ma at *
        generalize ts[j] = tj at *
        have HKK := Lib.hid (And.intro hka (And.intro hna hma))
        clear hka hna hma
        go_wp2_with fail
        refine (arg_is wr v3.heap.size p bm 1048576 V5 ns HAr.out (num : Nat) (j : Nat) kj HKA.out).mono ?_
        rintro e w7 ⟨rfl, hb7⟩
        have HB7 := Lib.hid (hgr.out.trans (hb7.mono hgr.out.size))
        have HA7 := Lib.hid (HAr.out.below hb7)
        clear hb7 a0 a1 a2 a3 a4
        go_wp2_with fail
        refine (term_is v3.heap.size p bm 1048576 V5 ns tj kj w7 HA7.out HOKJ.out HKH.out).mono ?_
        rintro e w8 ⟨l8, s8, rfl, ht8, hb8⟩
        obtain ⟨⟨ia, il, ic, rfl⟩, ja, jl, jc, rfl⟩ := tmP_slices ht8
        dsimp only [tv]
        rw [HKK.out.1, HKK.out.2.1, HKK.out.2.2]
        have hbx := below_lit w8 (.cells #[.int .i64 ka, .int .i64 na, .string ma, .slice ia il ic, .slice ja jl jc] 25)
        have hrx := heap_alloc_new w8 (.cells #[.int .i64 ka, .int .i64 na, .string ma, .slice ia il ic, .slice ja jl jc] 25)
        have hzx : w8.heap.size < (w8.alloc (.cells #[.int .i64 ka, .int .i64 na, .string ma, .slice ia il ic, .slice ja jl jc] 25)).heap.size := by simp
        have HXV : Hid (TmV (w8.alloc (.cells #[.int .i64 ka, .int .i64 na, .string ma, .slice ia il ic, .slice ja jl jc] 25)) tj (.agg #[.int .i64 ka, .int .i64 na, .string ma, .slice ia il ic, .slice ja jl jc])) := by
          have : TmV (w8.alloc (.cells #[.int .i64 ka, .int .i64 na, .string ma, .slice ia il ic, .slice ja jl jc] 25)) tj (.agg #[.int .i64 ka, .int .i64 na, .string ma, .slice ia il ic, .slice ja jl jc]) := ⟨_, _, by rw [← HKK.out.1, ← HKK.out.2.1, ← HKK.out.2.2], tmP_below hbx (tmP_weak (fun _ _ => trivial) ht8)⟩
          exact this
        have hb78 := hb8.trans (hbx.mono hb8.size)
        have HBX := Lib.hid (HB7.out.trans (hb78.mono HB7.out.size))
        have HAX := Lib.hid (HA7.out.below hb78)
        have HRX := Lib.hid hrx
        have HZX := Lib.hid hzx
        clear ht8 hbx hrx hzx hb8 hb78
        go_upto_region 16 with fail
        generalize w8.alloc (.cells #[.int .i64 ka, .int .i64 na, .string ma, .slice ia il ic, .slice ja jl jc] 25) = WX at *
        have HCX := Lib.hid (HC6.out.trans (HBX.out.mono HC6.out.size))
        have HBWX := Lib.hid (HB.out.trans (HCX.out.mono HB.out.size))
        have HEV : Hid (TmV WX tj (.agg #[.int .i64 ka, .int .i64 na, .string ma, .slice xa xl xc, .slice ya yl yc])) := by
          have : TmV WX tj (.agg #[.int .i64 ka, .int .i64 na, .string ma, .slice xa xl xc, .slice ya yl yc]) := ⟨_, _, by rw [← HKK.out.1, ← HKK.out.2.1, ← HKK.out.2.2], tmP_below HBWX.out HTM.out⟩
          exact this
        have hkX : Hid (∀ W', Below WX.heap.size WX W' → W'.cell? ⟨w.heap.size, 0, none⟩ = some (.int .i64 k) ∧ W'.cell? ⟨w.heap.size, 1, none⟩ = some (.int .i64 n) ∧ W'.cell? ⟨w.heap.size, 2, none⟩ = some (.string m) ∧ W'.cell? ⟨w.heap.size, 3, none⟩ = some (.slice la ll lc) ∧ W'.cell? ⟨w.heap.size, 4, none⟩ = some (.slice (some ⟨bk, o, none⟩) sl sc) ∧ W'.cell? ⟨bk, o + j * 5, none⟩ = some (.int .i64 ka) ∧ W'.cell? ⟨bk, o + j * 5 + 1, none⟩ = some (.int .i64 na) ∧ W'.cell? ⟨bk, o + j * 5 + 2, none⟩ = some (.string ma) ∧ W'.cell? ⟨bk, o + j * 5 + 3, none⟩ = some (.slice xa xl xc) ∧ W'.cell? ⟨bk, o + j * 5 + 4, none⟩ = some (.slice ya yl yc) ∧ W'.cell? ⟨w8.heap.size, 0, none⟩ = some (.int .i64 ka) ∧ W'.cell? ⟨w8.heap.size, 1, none⟩ = some (.int .i64 na) ∧ W'.cell? ⟨w8.heap.size, 2, none⟩ = some (.string ma) ∧ W'.cell? ⟨w8.heap.size, 3, none⟩ = some (.slice ia il ic) ∧ W'.cell? ⟨w8.heap.size, 4, none⟩ = some (.slice ja jl jc)) := fun W' h => by
          obtain ⟨q0, q1, q2, q3, q4⟩ := hk.out W' (HCX.out.trans (h.mono HCX.out.size))
          obtain ⟨r0, r1, r2, r3, r4⟩ := hke.out W' (HBWX.out.trans (h.mono HBWX.out.size))
          obtain ⟨x0, x1, x2, x3, x4⟩ := five_cells ((h.block w8.heap.size HZX.out).trans HRX.out)
          exact ⟨q0, q1, q2, q3, q4, r0, r1, r2, r3, r4, x0, x1, x2, x3, x4⟩
        have HDz : Hid (Below WX.heap.size WX WX.drew) := (Below.refl _ _).drew
        have t1 : decide ((kj : Int) < 1) = false := by simp; omega
        have t2 : decide ((num : Int) ≤ (kj : Int)) = false := by simp; omega
        have t3 : decide ((num : Int) ≤ (sk : Int)) = false := by simp; omega
        have t1b : decide (kj < 1) = false := by simp; omega
        have t1c : decide (kj = 0) = false := by simp; omega
        have t1d : (kj == 0) = false := by simp; omega
        have t2b : decide (num ≤ kj) = false := by simp; omega
        have t3b : decide (num ≤ sk) = false := by simp; omega
        have q1 : (0 : Int) ≤ (j : Int) := by omega
        have q2 : (j : Int) < (sl : Int) := by omega
        generalize w8.heap.size = B8 at *
        refine wp_region_held_drew (S := fun W' => W'.cell? ⟨w.heap.size, 0, none⟩ = some (.int .i64 k) ∧ W'.cell? ⟨w.heap.size, 1, none⟩ = some (.int .i64 n) ∧ W'.cell? ⟨w.heap.size, 2, none⟩ = some (.string m) ∧ W'.cell? ⟨w.heap.size, 3, none⟩ = some (.slice la ll lc) ∧ W'.cell? ⟨w.heap.size, 4, none⟩ = some (.slice (some ⟨bk, o, none⟩) sl sc) ∧ W'.cell? ⟨bk, o + j * 5, none⟩ = some (.int .i64 ka) ∧ W'.cell? ⟨bk, o + j * 5 + 1, none⟩ = some (.int .i64 na) ∧ W'.cell? ⟨bk, o + j * 5 + 2, none⟩ = some (.string ma) ∧ W'.cell? ⟨bk, o + j * 5 + 3, none⟩ = some (.slice xa xl xc) ∧ W'.cell? ⟨bk, o + j * 5 + 4, none⟩ = some (.slice ya yl yc) ∧ W'.cell? ⟨B8, 0, none⟩ = some (.int .i64 ka) ∧ W'.cell? ⟨B8, 1, none⟩ = some (.int .i64 na) ∧ W'.cell? ⟨B8, 2, none⟩ = some (.string ma) ∧ W'.cell? ⟨B8, 3, none⟩ = some (.slice ia il ic) ∧ W'.cell? ⟨B8, 4, none⟩ = some (.slice ja jl jc)) (by kernel_rfl) (hkX.out _ HDz.out) (fun hHeld => ?_)
        refine take_in (i := 0) (v := ?_) rfl (by kernel_rfl) (by kernel_rfl) (by kernel_rfl) (fun _ _ _ h => h) (by rfl) ?_ hHeld ?_
        rotate_left
        · intro w hSw
          (try dsimp only at hSw)
          go_simp
          try with_reducible rfl
        try simp only [Act.put, List.setIfInBounds_toArray, List.set_cons_zero, List.set_cons_succ]
        refine take_in (i := 1) (v := ?_) rfl (by kernel_rfl) (by kernel_rfl) (by kernel_rfl) (fun _ _ _ h => h) (by rfl) ?_ hHeld ?_
        rotate_left
        · intro w hSw
          (try dsimp only at hSw)
          go_simp
          try with_reducible rfl
        try simp only [Act.put, List.setIfInBounds_toArray, List.set_cons_zero, List.set_cons_succ]
        refine take_in (i := 2) (v := ?_) rfl (by kernel_rfl) (by kernel_rfl) (by kernel_rfl) (fun _ _ _ h => h) (by rfl) ?_ hHeld ?_
        rotate_left
        · intro w hSw
          (try dsimp only at hSw)
          go_simp
          try with_reducible rfl
        try simp only [Act.put, List.setIfInBounds_toArray, List.set_cons_zero, List.set_cons_succ]
        refine take_in (i := 3) (v := ?_) rfl (by kernel_rfl) (by kernel_rfl) (by kernel_rfl) (fun _ _ _ h => h) (by rfl) ?_ hHeld ?_
        rotate_left
        · intro w hSw
          (try dsimp only at hSw)
          go_simp
          try with_reducible rfl
        try simp only [Act.put, List.setIfInBounds_toArray, List.set_cons_zero, List.set_cons_succ]
        refine take_in (i := 4) (v := ?_) rfl (by kernel_rfl) (by kernel_rfl) (by kernel_rfl) (fun _ _ _ h => h) (by rfl) ?_ hHeld ?_
        rotate_left
        · intro w hSw
          (try dsimp only at hSw)
          go_simp
          try with_reducible rfl
        try simp only [Act.put, List.setIfInBounds_toArray, List.set_cons_zero, List.set_cons_succ]
        refine take_in (i := 5) (v := ?_) rfl (by kernel_rfl) (by kernel_rfl) (by kernel_rfl) (fun _ _ _ h => h) (by rfl) ?_ hHeld ?_
        rotate_left
        · intro w hSw
          (try dsimp only at hSw)
          go_simp
          try with_reducible rfl
        try simp only [Act.put, List.setIfInBounds_toArray, List.set_cons_zero, List.set_cons_succ]
        refine take_in (i := 6) (v := ?_) rfl (by kernel_rfl) (by kernel_rfl) (by kernel_rfl) (fun _ _ _ h => h) (by rfl) ?_ hHeld ?_
        rotate_left
        · intro w hSw
          (try dsimp only at hSw)
          go_simp
          try with_reducible rfl
        try simp only [Act.put, List.setIfInBounds_toArray, List.set_cons_zero, List.set_cons_succ]
        refine take_in (i := 7) (v := ?_) rfl (by kernel_rfl) (by kernel_rfl) (by kernel_rfl) (fun _ _ _ h => h) (by rfl) ?_ hHeld ?_
        rotate_left
        · intro w hSw
          (try dsimp only at hSw)
          go_simp
          try with_reducible rfl
        try simp only [Act.put, List.setIfInBounds_toArray, List.set_cons_zero, List.set_cons_succ]
        refine take_in (i := 8) (v := ?_) rfl (by kernel_rfl) (by kernel_rfl) (by kernel_rfl) (fun _ _ _ h => h) (by rfl) ?_ hHeld ?_
        rotate_left
        · intro w hSw
          (try dsimp only at hSw)
          go_simp
          try with_reducible rfl
        try simp only [Act.put, List.setIfInBounds_toArray, List.set_cons_zero, List.set_cons_succ]
        refine take_in (i := 9) (v := ?_) rfl (by kernel_rfl) (by kernel_rfl) (by kernel_rfl) (fun _ _ _ h => h) (by rfl) ?_ hHeld ?_
        rotate_left
        · intro w hSw
          (try dsimp only at hSw)
          go_simp
          try with_reducible rfl
        try simp only [Act.put, List.setIfInBounds_toArray, List.set_cons_zero, List.set_cons_succ]
        refine take_in (i := 10) (v := ?_) rfl (by kernel_rfl) (by kernel_rfl) (by kernel_rfl) (fun _ _ _ h => h) (by rfl) ?_ hHeld ?_
        rotate_left
        · intro w hSw
          (try dsimp only at hSw)
          go_simp
          try with_reducible rfl
        try simp only [Act.put, List.setIfInBounds_toArray, List.set_cons_zero, List.set_cons_succ]
        refine take_in (i := 11) (v := ?_) rfl (by kernel_rfl) (by kernel_rfl) (by kernel_rfl) (fun _ _ _ h => h) (by rfl) ?_ hHeld ?_
        rotate_left
        · intro w hSw
          (try dsimp only at hSw)
          go_simp
          try with_reducible rfl
        try simp only [Act.put, List.setIfInBounds_toArray, List.set_cons_zero, List.set_cons_succ]
        refine take_in (i := 12) (v := ?_) rfl (by kernel_rfl) (by kernel_rfl) (by kernel_rfl) (fun _ _ _ h => h) (by rfl) ?_ hHeld ?_
        rotate_left
        · intro w hSw
          (try dsimp only at hSw)
          go_simp
          try with_reducible rfl
        try simp only [Act.put, List.setIfInBounds_toArray, List.set_cons_zero, List.set_cons_succ]
        refine take_in (i := 13) (v := ?_) rfl (by kernel_rfl) (by kernel_rfl) (by kernel_rfl) (fun _ _ _ h => h) (by rfl) ?_ hHeld ?_
        rotate_left
        · intro w hSw
          (try dsimp only at hSw)
          go_simp
          try with_reducible rfl
        try simp only [Act.put, List.setIfInBounds_toArray, List.set_cons_zero, List.set_cons_succ]
        refine take_in (i := 14) (v := ?_) rfl (by kernel_rfl) (by kernel_rfl) (by kernel_rfl) (fun _ _ _ h => h) (by rfl) ?_ hHeld ?_
        rotate_left
        · intro w hSw
          (try dsimp only at hSw)
          go_simp
          try with_reducible rfl
        try simp only [Act.put, List.setIfInBounds_toArray, List.set_cons_zero, List.set_cons_succ]
        refine take_in (i := 15) (v := ?_) rfl (by kernel_rfl) (by kernel_rfl) (by kernel_rfl) (fun _ _ _ h => h) (by rfl) ?_ hHeld ?_
        rotate_left
        · intro w hSw
          (try dsimp only at hSw)
          go_simp
          try with_reducible rfl
        try simp only [Act.put, List.setIfInBounds_toArray, List.set_cons_zero, List.set_cons_succ]
        refine take_in (i := 16) (v := ?_) rfl (by kernel_rfl) (by kernel_rfl) (by kernel_rfl) (fun _ _ _ h => h) (by rfl) ?_ hHeld ?_
        rotate_left
        · intro w hSw
          (try dsimp only at hSw)
          go_simp
          try with_reducible rfl
        try simp only [Act.put, List.setIfInBounds_toArray, List.set_cons_zero, List.set_cons_succ]
        refine take_in (i := 17) (v := ?_) rfl (by kernel_rfl) (by kernel_rfl) (by kernel_rfl) (fun _ _ _ h => h) (by rfl) ?_ hHeld ?_
        rotate_left
        · intro w hSw
          (try dsimp only at hSw)
          go_simp
          try with_reducible rfl
        try simp only [Act.put, List.setIfInBounds_toArray, List.set_cons_zero, List.set_cons_succ]
        refine call_in (i := 18) rfl (by kernel_rfl) (fun K hK => ?_)
        clear hHeld
        go_simp
        (go_at_call 16; refine (sameTerm_is tj _ _ _ (HXV.out.below HDz.out) (HEV.out.below HDz.out)).mono ?_; rintro e z1 ⟨rfl, hb9⟩; have hz1 : Hid (Below WX.heap.size WX z1) := HDz.out.trans (hb9.mono HDz.out.size); clear hb9)
        try (go_wp2_with fail)
        refine hK.out _ _ (hkX.out _ hz1.out) (fun hHeld => ?_)
        clear hK K
        try simp only [Act.put, List.setIfInBounds_toArray, List.set_cons_zero, List.set_cons_succ]
        refine take_in (i := 19) (v := ?_) rfl (by kernel_rfl) (by kernel_rfl) (by kernel_rfl) (fun _ _ _ h => h) (by rfl) ?_ hHeld ?_
        rotate_left
        · intro w hSw
          (try dsimp only at hSw)
          go_simp
          try with_reducible rfl
        try simp only [Act.put, List.setIfInBounds_toArray, List.set_cons_zero, List.set_cons_succ]
        refine take_in (i := 20) (v := ?_) rfl (by kernel_rfl) (by kernel_rfl) (by kernel_rfl) (fun _ _ _ h => h) (by rfl) ?_ hHeld ?_
        rotate_left
        · intro w hSw
          (try dsimp only at hSw)
          go_simp
          try with_reducible rfl
        try simp only [Act.put, List.setIfInBounds_toArray, List.set_cons_zero, List.set_cons_succ]
        refine take_in (i := 21) (v := ?_) rfl (by kernel_rfl) (by kernel_rfl) (by kernel_rfl) (fun _ _ _ h => h) (by rfl) ?_ hHeld ?_
        rotate_left
        · intro w hSw
          (try dsimp only at hSw)
          go_simp
          try with_reducible rfl
        try simp only [Act.put, List.setIfInBounds_toArray, List.set_cons_zero, List.set_cons_succ]
        refine take_in (i := 22) (v := ?_) rfl (by kernel_rfl) (by kernel_rfl) (by kernel_rfl) (fun _ _ _ h => h) (by rfl) ?_ hHeld ?_
        rotate_left
        · intro w hSw
          (try dsimp only at hSw)
          go_simp
          try with_reducible rfl
        try simp only [Act.put, List.setIfInBounds_toArray, List.set_cons_zero, List.set_cons_succ]
        refine take_in (i := 23) (v := ?_) rfl (by kernel_rfl) (by kernel_rfl) (by kernel_rfl) (fun _ _ _ h => h) (by rfl) ?_ hHeld ?_
        rotate_left
        · intro w hSw
          (try dsimp only at hSw)
          go_simp
          try with_reducible rfl
        try simp only [Act.put, List.setIfInBounds_toArray, List.set_cons_zero, List.set_cons_succ]
        refine take_in (i := 25) (v := ?_) rfl (by kernel_rfl) (by kernel_rfl) (by kernel_rfl) (fun _ _ _ h => h) (by rfl) ?_ hHeld ?_
        rotate_left
        · intro w hSw
          (try dsimp only at hSw)
          go_simp
          try with_reducible rfl
        try simp only [Act.put, List.setIfInBounds_toArray, List.set_cons_zero, List.set_cons_succ]
        refine take_in (i := 26) (v := ?_) rfl (by kernel_rfl) (by kernel_rfl) (by kernel_rfl) (fun _ _ _ h => h) (by rfl) ?_ hHeld ?_
        rotate_left
        · intro w hSw
          (try dsimp only at hSw)
          go_simp
          try with_reducible rfl
        try simp only [Act.put, List.setIfInBounds_toArray, List.set_cons_zero, List.set_cons_succ]
        refine call_in (i := 24) rfl (by kernel_rfl) (fun K hK => ?_)
        clear hHeld
        go_simp
        (go_at_call 12; refine (shared_is v3.heap.size p bm 1048576 V5 ns HP.out.ahead _ kj (by omega) (HAX.out.below hz1.out) sk HSK.out).mono ?_; rintro e z2 ⟨rfl, hb9⟩; have hz2 : Hid (Below WX.heap.size WX z2) := hz1.out.trans (hb9.mono hz1.out.size); clear hb9)
        try (go_wp2_with fail)
        refine hK.out _ _ (hkX.out _ hz2.out) (fun hHeld => ?_)
        clear hK K
        try simp only [Act.put, List.setIfInBounds_toArray, List.set_cons_zero, List.set_cons_succ]
        refine call_in (i := 27) rfl (by kernel_rfl) (fun K hK => ?_)
        clear hHeld
        go_simp
        (go_at_call 12; refine (shared_is v3.heap.size p bm 1048576 V5 ns HP.out.ahead _ num (by omega) (HAX.out.below hz2.out) num HP.out.all).mono ?_; rintro e z3 ⟨rfl, hb9⟩; have hz3 : Hid (Below WX.heap.size WX z3) := hz2.out.trans (hb9.mono hz2.out.size); clear hb9)
        try (go_wp2_with fail)
        refine hK.out _ _ (hkX.out _ hz3.out) (fun hHeld => ?_)
        clear hK K
        try simp only [Act.put, List.setIfInBounds_toArray, List.set_cons_zero, List.set_cons_succ]
        refine take_in (i := 28) (v := ?_) rfl (by kernel_rfl) (by kernel_rfl) (by kernel_rfl) (fun _ _ _ h => h) (by rfl) ?_ hHeld ?_
        rotate_left
        · intro w hSw
          (try dsimp only at hSw)
          go_simp
          try with_reducible rfl
        try simp only [Act.put, List.setIfInBounds_toArray, List.set_cons_zero, List.set_cons_succ]
        refine take_in (i := 29) (v := ?_) rfl (by kernel_rfl) (by kernel_rfl) (by kernel_rfl) (fun _ _ _ h => h) (by rfl) ?_ hHeld ?_
        rotate_left
        · intro w hSw
          (try dsimp only at hSw)
          go_simp
          try with_reducible rfl
        try simp only [Act.put, List.setIfInBounds_toArray, List.set_cons_zero, List.set_cons_succ]
        refine wpAnyH_done (by kernel_rfl) ?_ _
        have HBR := Lib.hid (HBX.out.trans (hz3.out.mono HBX.out.size))
        clear hkX hz1 hz2 hz3 HDz t1 t2 t3 t1b t1c t1d t2b t3b
        go_wp2_with fail
        go_roundw
        case rel => exact ⟨j + 1, by omega, by go_num, HBR.out⟩
        case measure =>
          simp [intOf]
          omega
      · obtain rfl : j = sl := by omega
        have hln : decide ((j : Int) < (j : Int)) = false := by simp
        go_upto_region 18 with fail
        have hkU : Hid (∀ W', Below wr.heap.size wr W' → W'.cell? ⟨w.heap.size, 0, none⟩ = some (.int .i64 k) ∧ W'.cell? ⟨w.heap.size, 1, none⟩ = some (.int .i64 n) ∧ W'.cell? ⟨w.heap.size, 2, none⟩ = some (.string m) ∧ W'.cell? ⟨w.heap.size, 3, none⟩ = some (.slice la ll lc) ∧ W'.cell? ⟨w.heap.size, 4, none⟩ = some (.slice sa j sc)) := fun W' h => hk.out W' (HCr.out.trans (h.mono HCr.out.size))
        have HDu : Hid (Below wr.heap.size wr wr.drew) := (Below.refl _ _).drew
        obtain ⟨R, hR⟩ : ∃ R, min (tnodes t) (2000 + 1) = R := ⟨_, rfl⟩
        have HR := Lib.hid hR
        have hle := HP.out.le
        have hRn : num ≤ R := by have h2 := HN2.out; omega
        have u1 : decide ((num : Int) ≤ (R : Int)) = true := by simp; omega
        have HPST : Hid (argOf (nodeAt ns (num : Nat)).key (j : Nat) = 0) := by
          have : argOf (nodeAt ns (num : Nat)).key (j : Nat) = 0 := by
            have h1 := HP.out.past
            rw [HTA.out, HLEN.out] at h1
            exact h1
          exact this
        have HRN := Lib.hid hRn
        clear hR hle hRn
        refine wp_region_held_drew (S := fun W' => W'.cell? ⟨w.heap.size, 0, none⟩ = some (.int .i64 k) ∧ W'.cell? ⟨w.heap.size, 1, none⟩ = some (.int .i64 n) ∧ W'.cell? ⟨w.heap.size, 2, none⟩ = some (.string m) ∧ W'.cell? ⟨w.heap.size, 3, none⟩ = some (.slice la ll lc) ∧ W'.cell? ⟨w.heap.size, 4, none⟩ = some (.slice sa j sc)) (by kernel_rfl) (hkU.out _ HDu.out) (fun hHeld => ?_)
        refine take_in (i := 0) (v := ?_) rfl (by kernel_rfl) (by kernel_rfl) (by kernel_rfl) (fun _ _ _ h => h) (by rfl) ?_ hHeld ?_
        rotate_left
        · intro w hSw
          (try dsimp only at hSw)
          go_simp
          try with_reducible rfl
        try simp only [Act.put, List.setIfInBounds_toArray, List.set_cons_zero, List.set_cons_succ]
        refine take_in (i := 1) (v := ?_) rfl (by kernel_rfl) (by kernel_rfl) (by kernel_rfl) (fun _ _ _ h => h) (by rfl) ?_ hHeld ?_
        rotate_left
        · intro w hSw
          (try dsimp only at hSw)
          go_simp
          try with_reducible rfl
        try simp only [Act.put, List.setIfInBounds_toArray, List.set_cons_zero, List.set_cons_succ]
        refine take_in (i := 2) (v := ?_) rfl (by kernel_rfl) (by kernel_rfl) (by kernel_rfl) (fun _ _ _ h => h) (by rfl) ?_ hHeld ?_
        rotate_left
        · intro w hSw
          (try dsimp only at hSw)
          go_simp
          try with_reducible rfl
        try simp only [Act.put, List.setIfInBounds_toArray, List.set_cons_zero, List.set_cons_succ]
        refine take_in (i := 3) (v := ?_) rfl (by kernel_rfl) (by kernel_rfl) (by kernel_rfl) (fun _ _ _ h => h) (by rfl) ?_ hHeld ?_
        rotate_left
        · intro w hSw
          (try dsimp only at hSw)
          go_simp
          try with_reducible rfl
        try simp only [Act.put, List.setIfInBounds_toArray, List.set_cons_zero, List.set_cons_succ]
        refine take_in (i := 4) (v := ?_) rfl (by kernel_rfl) (by kernel_rfl) (by kernel_rfl) (fun _ _ _ h => h) (by rfl) ?_ hHeld ?_
        rotate_left
        · intro w hSw
          (try dsimp only at hSw)
          go_simp
          try with_reducible rfl
        try simp only [Act.put, List.setIfInBounds_toArray, List.set_cons_zero, List.set_cons_succ]
        refine call_in (i := 5) rfl (by kernel_rfl) (fun K hK => ?_)
        clear hHeld
        go_simp
        (go_at_call 14; refine (arg_is _ v3.heap.size p bm 1048576 V5 ns (HAr.out.below HDu.out) (num : Nat) (j : Nat) 0 HPST.out).mono ?_; rintro e u1 ⟨rfl, hb9⟩; have hu1 : Hid (Below wr.heap.size wr u1) := HDu.out.trans (hb9.mono HDu.out.size); clear hb9)
        try (go_wp2_with fail)
        refine hK.out _ _ (hkU.out _ hu1.out) (fun hHeld => ?_)
        clear hK K
        try simp only [Act.put, List.setIfInBounds_toArray, List.set_cons_zero, List.set_cons_succ]
        refine take_in (i := 6) (v := ?_) rfl (by kernel_rfl) (by kernel_rfl) (by kernel_rfl) (fun _ _ _ h => h) (by rfl) ?_ hHeld ?_
        rotate_left
        · intro w hSw
          (try dsimp only at hSw)
          go_simp
          try with_reducible rfl
        try simp only [Act.put, List.setIfInBounds_toArray, List.set_cons_zero, List.set_cons_succ]
        refine take_in (i := 7) (v := ?_) rfl (by kernel_rfl) (by kernel_rfl) (by kernel_rfl) (fun _ _ _ h => h) (by rfl) ?_ hHeld ?_
        rotate_left
        · intro w hSw
          (try dsimp only at hSw)
          go_simp
          try with_reducible rfl
        try simp only [Act.put, List.setIfInBounds_toArray, List.set_cons_zero, List.set_cons_succ]
        refine take_in (i := 8) (v := ?_) rfl (by kernel_rfl) (by kernel_rfl) (by kernel_rfl) (fun _ _ _ h => h) (by rfl) ?_ hHeld ?_
        rotate_left
        · intro w hSw
          (try dsimp only at hSw)
          go_simp
          try with_reducible rfl
        try simp only [Act.put, List.setIfInBounds_toArray, List.set_cons_zero, List.set_cons_succ]
        refine take_in (i := 9) (v := ?_) rfl (by kernel_rfl) (by kernel_rfl) (by kernel_rfl) (fun _ _ _ h => h) (by rfl) ?_ hHeld ?_
        rotate_left
        · intro w hSw
          (try dsimp only at hSw)
          go_simp
          try with_reducible rfl
        try simp only [Act.put, List.setIfInBounds_toArray, List.set_cons_zero, List.set_cons_succ]
        refine call_in (i := 10) rfl (by kernel_rfl) (fun K hK => ?_)
        clear hHeld
        go_simp
        (go_at_call 14; refine (arg_is _ v3.heap.size p bm 1048576 V5 ns (HAr.out.below hu1.out) (num : Nat) (-1) 0 HP.out.neg).mono ?_; rintro e u2 ⟨rfl, hb9⟩; have hu2 : Hid (Below wr.heap.size wr u2) := hu1.out.trans (hb9.mono hu1.out.size); clear hb9)
        try (go_wp2_with fail)
        refine hK.out _ _ (hkU.out _ hu2.out) (fun hHeld => ?_)
        clear hK K
        try simp only [Act.put, List.setIfInBounds_toArray, List.set_cons_zero, List.set_cons_succ]
        refine take_in (i := 11) (v := ?_) rfl (by kernel_rfl) (by kernel_rfl) (by kernel_rfl) (fun _ _ _ h => h) (by rfl) ?_ hHeld ?_
        rotate_left
        · intro w hSw
          (try dsimp only at hSw)
          go_simp
          try with_reducible rfl
        try simp only [Act.put, List.setIfInBounds_toArray, List.set_cons_zero, List.set_cons_succ]
        refine take_in (i := 12) (v := ?_) rfl (by kernel_rfl) (by kernel_rfl) (by kernel_rfl) (fun _ _ _ h => h) (by rfl) ?_ hHeld ?_
        rotate_left
        · intro w hSw
          (try dsimp only at hSw)
          go_simp
          try with_reducible rfl
        try simp only [Act.put, List.setIfInBounds_toArray, List.set_cons_zero, List.set_cons_succ]
        refine take_in (i := 13) (v := ?_) rfl (by kernel_rfl) (by kernel_rfl) (by kernel_rfl) (fun _ _ _ h => h) (by rfl) ?_ hHeld ?_
        rotate_left
        · intro w hSw
          (try dsimp only at hSw)
          go_simp
          try with_reducible rfl
        try simp only [Act.put, List.setIfInBounds_toArray, List.set_cons_zero, List.set_cons_succ]
        refine take_in (i := 14) (v := ?_) rfl (by kernel_rfl) (by kernel_rfl) (by kernel_rfl) (fun _ _ _ h => h) (by rfl) ?_ hHeld ?_
        rotate_left
        · intro w hSw
          (try dsimp only at hSw)
          go_simp
          try with_reducible rfl
        try simp only [Act.put, List.setIfInBounds_toArray, List.set_cons_zero, List.set_cons_succ]
        refine take_in (i := 15) (v := ?_) rfl (by kernel_rfl) (by kernel_rfl) (by kernel_rfl) (fun _ _ _ h => h) (by rfl) ?_ hHeld ?_
        rotate_left
        · intro w hSw
          (try dsimp only at hSw)
          go_simp
          try with_reducible rfl
        try simp only [Act.put, List.setIfInBounds_toArray, List.set_cons_zero, List.set_cons_succ]
        refine take_in (i := 17) (v := ?_) rfl (by kernel_rfl) (by kernel_rfl) (by kernel_rfl) (fun _ _ _ h => h) (by rfl) ?_ hHeld ?_
        rotate_left
        · intro w hSw
          (try dsimp only at hSw)
          go_simp
          try with_reducible rfl
        try simp only [Act.put, List.setIfInBounds_toArray, List.set_cons_zero, List.set_cons_succ]
        refine call_in (i := 16) rfl (by kernel_rfl) (fun K hK => ?_)
        clear hHeld
        go_simp
        (go_at_call 12; refine (shared_is v3.heap.size p bm 1048576 V5 ns HP.out.ahead _ num (by omega) (HAr.out.below hu2.out) num HP.out.all).mono ?_; rintro e u3 ⟨rfl, hb9⟩; have hu3 : Hid (Below wr.heap.size wr u3) := hu2.out.trans (hb9.mono hu2.out.size); clear hb9)
        try (go_wp2_with fail)
        refine hK.out _ _ (hkU.out _ hu3.out) (fun hHeld => ?_)
        clear hK K
        try simp only [Act.put, List.setIfInBounds_toArray, List.set_cons_zero, List.set_cons_succ]
        refine call_in (i := 18) rfl (by kernel_rfl) (fun K hK => ?_)
        clear hHeld
        go_simp
        (go_at_call 17; refine (refNodes_is t _ 2000 _ (HTV.out.below (HCr.out.trans (hu3.out.mono HCr.out.size))) (by decide) R HR.out).mono ?_; rintro e u4 ⟨rfl, hb9⟩; have hu4 : Hid (Below wr.heap.size wr u4) := hu3.out.trans (hb9.mono hu3.out.size); clear hb9)
        try (go_wp2_with fail)
        refine hK.out _ _ (hkU.out _ hu4.out) (fun hHeld => ?_)
        clear hK K
        try simp only [Act.put, List.setIfInBounds_toArray, List.set_cons_zero, List.set_cons_succ]
        refine take_in (i := 19) (v := ?_) rfl (by kernel_rfl) (by kernel_rfl) (by kernel_rfl) (fun _ _ _ h => h) (by rfl) ?_ hHeld ?_
        rotate_left
        · intro w hSw
          (try dsimp only at hSw)
          go_simp
          try with_reducible rfl
        try simp only [Act.put, List.setIfInBounds_toArray, List.set_cons_zero, List.set_cons_succ]
        refine take_in (i := 20) (v := ?_) rfl (by kernel_rfl) (by kernel_rfl) (by kernel_rfl) (fun _ _ _ h => h) (by rfl) ?_ hHeld ?_
        rotate_left
        · intro w hSw
          (try dsimp only at hSw)
          go_simp
          try with_reducible rfl
        try simp only [Act.put, List.setIfInBounds_toArray, List.set_cons_zero, List.set_cons_succ]
        refine take_in (i := 21) (v := ?_) rfl (by kernel_rfl) (by kernel_rfl) (by kernel_rfl) (fun _ _ _ h => h) (by rfl) ?_ hHeld ?_
        rotate_left
        · intro w hSw
          (try dsimp only at hSw)
          go_simp
          try with_reducible rfl
        try simp only [Act.put, List.setIfInBounds_toArray, List.set_cons_zero, List.set_cons_succ]
        refine wpAnyH_done (by kernel_rfl) ?_ _
        go_wp2_with fail
        go_ret
        have hend : Ending.returned (.bool (decide (num ≤ R))) = Ending.returned (.bool true) := by rw [decide_eq_true HRN.out]
        exact ⟨hend, HB.out.trans ((HCr.out.trans (hu4.out.mono HCr.out.size)).mono HB.out.size)⟩
end Arn
end Go.Proofs.YtbkdecgfiiajnaaDoor
