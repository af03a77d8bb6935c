import Derived.Test.YtbkdecgfiiajnaaGreatDoorJ14
/-
  The contract of the program's function remade, with scholium/term.raised$1.
  Conditions: the term lies in memory as told by 'TmV'; it has at most 100000 nodes, and its levels at most 1000 each; what scholium/term.raised$1 does ('ChgC').
-/
namespace Go.Proofs.YtbkdecgfiiajnaaGreatDoor
open Go.RowKit
open Lvl
namespace Trm

set_option maxRecDepth 100000 in
set_option maxHeartbeats 8000000 in
theorem rem_raised (w0 : World) (Bc : Nat) (f : Int → Int → List Lv → Int → Int × List Lv) (C : Int → Int → List Lv → Int → Prop) (HCH : Hid (ChgC w0 59 #[.pointer (some ⟨Bc, 0, none⟩)] f C)) : ∀ (N : Nat) (t : Tm) (d : Nat) (v : Value) (w : World), tnodes t ≤ N → N ≤ 100000 → d + N ≤ 1000000 → okC C t d → Below w0.heap.size w0 w → TmV w t v →
    Calls Tryz.prog 52 #[v, .int .i64 d, .func (.func 59) #[] #[.pointer (some ⟨Bc, 0, none⟩)]] w (TmRet w (remT f t d)) := by
  intro N
  induction N with
  | zero => intro t _ _ _ h; have := tnodes_pos t; omega
  | succ N ih =>
  intro t d v w hN hN6 hd hok hb0 hv
  obtain ⟨i0, hi0, hz0, hz1, hz2⟩ := info_parts infoTm
  obtain ⟨l, s, rfl, ht⟩ := hv
  obtain ⟨⟨la, ll, lc, rfl⟩, sa, sl, sc, rfl⟩ := tmP_slices ht
  cases t with
  | mk k n m ls ts =>
  rw [TmP] at ht
  obtain ⟨hls, A', len', cap', e9, hlen, hlc', hl47, hnone, hts⟩ := ht
  cases e9
  rw [okC] at hok
  have IH := Lib.hid ih
  have HTS := Lib.hid hts
  have HLEN := Lib.hid hlen
  have HOK := Lib.hid hok
  have HB0 := Lib.hid hb0
  rw [tnodes] at hN
  have HLL := Lib.hid (Nat.le_trans (len_nodes ls) (show nodesL ls ≤ 100000 by omega))
  have HTN : Hid (tnodesL ts ≤ N) := by
    have : tnodesL ts ≤ N := by omega
    exact this
  have CE : Hid (∀ w', Below w.heap.size w w' → Calls Tryz.prog 54 #[.slice la ll lc, .func (.func 49) #[] #[]] w' (fun e w9 => ∃ V, e = .returned V ∧ OwnL w9 w'.heap.size V ls ∧ Below w'.heap.size w' w9)) :=
    fun w' h => eachl_all ls _ w' _ (lvP_below hls h) HLL.out HOK.out.1.2
  dsimp only [tv]
  clear ih hts hlen hok hb0 hls hN
  go_enter Tryz.func52, Tryz.ntmps52
  go_wp2_with fail
  have z1 : (w.alloc (.cells #[.int .i64 k, .int .i64 n, .string m, .slice la ll lc, .slice sa sl sc] 25)).heap.size = w.heap.size + 1 := by simp
  have z2 : ((w.alloc (.cells #[.int .i64 k, .int .i64 n, .string m, .slice la ll lc, .slice sa sl sc] 25)).alloc (.cells #[.int .i64 0, .int .i64 0, .string ⟨#[]⟩, .slice none 0 0, .slice none 0 0] 25)).heap.size = w.heap.size + 1 + 1 := by simp
  have r0 : (w.alloc (.cells #[.int .i64 k, .int .i64 n, .string m, .slice la ll lc, .slice sa sl sc] 25)).heap[w.heap.size]? = some (Obj.cells #[.int .i64 k, .int .i64 n, .string m, .slice la ll lc, .slice sa sl sc] 25 (0, 0)) := by
    have := heap_alloc_new w (.cells #[.int .i64 k, .int .i64 n, .string m, .slice la ll lc, .slice sa sl sc] 25)
    exact this
  have r1 : ((w.alloc (.cells #[.int .i64 k, .int .i64 n, .string m, .slice la ll lc, .slice sa sl sc] 25)).alloc (.cells #[.int .i64 0, .int .i64 0, .string ⟨#[]⟩, .slice none 0 0, .slice none 0 0] 25)).heap[w.heap.size + 1]? = some (Obj.cells #[.int .i64 0, .int .i64 0, .string ⟨#[]⟩, .slice none 0 0, .slice none 0 0] 25 (0, 0)) := by
    have := heap_alloc_new (w.alloc (.cells #[.int .i64 k, .int .i64 n, .string m, .slice la ll lc, .slice sa sl sc] 25)) (.cells #[.int .i64 0, .int .i64 0, .string ⟨#[]⟩, .slice none 0 0, .slice none 0 0] 25)
    rwa [z1] at this
  have HB := Lib.hid ((below_lit w (.cells #[.int .i64 k, .int .i64 n, .string m, .slice la ll lc, .slice sa sl sc] 25)).trans ((below_lit (w.alloc (.cells #[.int .i64 k, .int .i64 n, .string m, .slice la ll lc, .slice sa sl sc] 25)) (.cells #[.int .i64 0, .int .i64 0, .string ⟨#[]⟩, .slice none 0 0, .slice none 0 0] 25)).mono (below_lit w (.cells #[.int .i64 k, .int .i64 n, .string m, .slice la ll lc, .slice sa sl sc] 25)).size))
  have HR0 := Lib.hid ((heap_alloc_old (w.alloc (.cells #[.int .i64 k, .int .i64 n, .string m, .slice la ll lc, .slice sa sl sc] 25)) (.cells #[.int .i64 0, .int .i64 0, .string ⟨#[]⟩, .slice none 0 0, .slice none 0 0] 25) (by rw [z1]; omega)).trans (r0))
  have HR1 := Lib.hid (r1)
  clear r0 r1
  generalize ((w.alloc (.cells #[.int .i64 k, .int .i64 n, .string m, .slice la ll lc, .slice sa sl sc] 25)).alloc (.cells #[.int .i64 0, .int .i64 0, .string ⟨#[]⟩, .slice none 0 0, .slice none 0 0] 25)) = W2 at *
  have HZ := Lib.hid z2
  clear z1 z2
  have hk : Hid (∀ W', Below W2.heap.size W2 W' → W'.cell? ⟨w.heap.size, 0, none⟩ = some (.int .i64 k) ∧ W'.cell? ⟨w.heap.size, 1, none⟩ = some (.int .i64 n) ∧ W'.cell? ⟨w.heap.size, 2, none⟩ = some (.string m) ∧ W'.cell? ⟨w.heap.size, 3, none⟩ = some (.slice la ll lc) ∧ W'.cell? ⟨w.heap.size, 4, none⟩ = some (.slice sa sl sc)) := fun W' h => five_cells ((h.block w.heap.size (by rw [HZ.out]; omega)).trans HR0.out)
  have hsz2 := HZ.out
  refine wp_mono (Q := fun e a' W' => e = .normal ∧ ∃ (Bo : Nat) (va : Option Addr) (vl vc : Nat), (w.heap.size + 1 + 1 ≤ Bo ∧ Bo < W'.heap.size ∧ Below W2.heap.size W2 W' ∧ W'.heap[Bo]? = some (.cells #[.int .i64 k, .int .i64 n, .string m, .slice va vl vc, .slice none 0 0] 25 (0, 0)) ∧ LvP W' (fun b => w.heap.size + 1 + 1 ≤ b ∧ b ≠ Bo) (.mk 0 0 ls) (.slice va vl vc)) ∧ a' = { tmps := #[.agg #[.int .i64 k, .int .i64 n, .string m, .slice la ll lc, .slice sa sl sc], .int .i64 d, .func (.func 59) #[] #[.pointer (some ⟨Bc, 0, none⟩)], .pointer (some ⟨w.heap.size, 0, none⟩), undef, undef, .pointer (some ⟨w.heap.size + 1, 0, none⟩), .pointer (some ⟨Bo, 0, none⟩), undef, undef, .pointer (some ⟨w.heap.size, 0, none⟩), .int .i64 k, .pointer (some ⟨w.heap.size, 1, none⟩), .int .i64 n, .pointer (some ⟨w.heap.size, 2, none⟩), .string m, .pointer (some ⟨w.heap.size, 3, none⟩), .slice la ll lc, .slice va vl vc, .agg #[.int .i64 k, .int .i64 n, .string m, .slice va vl vc, .slice none 0 0], undef, undef, undef, undef, undef, undef, undef, undef, undef, undef, undef, undef, undef, undef, undef, undef, undef, undef, undef, undef, undef, undef, undef, undef, undef, undef, undef, undef, undef, undef, undef, undef, undef, undef], defers := [] }) ?region ?rest
  case region =>
    refine wp_region_held_drew (S := fun W' => W'.cell? ⟨w.heap.size, 0, none⟩ = some (.int .i64 k) ∧ W'.cell? ⟨w.heap.size, 1, none⟩ = some (.int .i64 n) ∧ W'.cell? ⟨w.heap.size, 2, none⟩ = some (.string m) ∧ W'.cell? ⟨w.heap.size, 3, none⟩ = some (.slice la ll lc) ∧ W'.cell? ⟨w.heap.size, 4, none⟩ = some (.slice sa sl sc)) (by kernel_rfl) (hk.out _ ((Below.refl _ _).drew)) (fun hHeld => ?_)
    refine take_in (i := 0) (v := ?_) rfl (by kernel_rfl) (by kernel_rfl) (by kernel_rfl) (fun _ _ _ h => by cases h.1) (by rfl) ?_ hHeld ?_
    rotate_left
    · intro w hSw
      (try dsimp only at hSw)
      go_simp
      try with_reducible rfl
    try simp only [Act.put, List.setIfInBounds_toArray, List.set_cons_zero, List.set_cons_succ]
    refine take_in (i := 1) (v := ?_) rfl (by kernel_rfl) (by kernel_rfl) (by kernel_rfl) (fun _ _ _ h => by cases h.1) (by rfl) ?_ hHeld ?_
    rotate_left
    · intro w hSw
      (try dsimp only at hSw)
      go_simp
      try with_reducible rfl
    try simp only [Act.put, List.setIfInBounds_toArray, List.set_cons_zero, List.set_cons_succ]
    refine take_in (i := 2) (v := ?_) rfl (by kernel_rfl) (by kernel_rfl) (by kernel_rfl) (fun _ _ _ h => by cases h.1) (by rfl) ?_ hHeld ?_
    rotate_left
    · intro w hSw
      (try dsimp only at hSw)
      go_simp
      try with_reducible rfl
    try simp only [Act.put, List.setIfInBounds_toArray, List.set_cons_zero, List.set_cons_succ]
    refine take_in (i := 3) (v := ?_) rfl (by kernel_rfl) (by kernel_rfl) (by kernel_rfl) (fun _ _ _ h => by cases h.1) (by rfl) ?_ hHeld ?_
    rotate_left
    · intro w hSw
      (try dsimp only at hSw)
      go_simp
      try with_reducible rfl
    try simp only [Act.put, List.setIfInBounds_toArray, List.set_cons_zero, List.set_cons_succ]
    refine take_in (i := 4) (v := ?_) rfl (by kernel_rfl) (by kernel_rfl) (by kernel_rfl) (fun _ _ _ h => by cases h.1) (by rfl) ?_ hHeld ?_
    rotate_left
    · intro w hSw
      (try dsimp only at hSw)
      go_simp
      try with_reducible rfl
    try simp only [Act.put, List.setIfInBounds_toArray, List.set_cons_zero, List.set_cons_succ]
    refine take_in (i := 5) (v := ?_) rfl (by kernel_rfl) (by kernel_rfl) (by kernel_rfl) (fun _ _ _ h => by cases h.1) (by rfl) ?_ hHeld ?_
    rotate_left
    · intro w hSw
      (try dsimp only at hSw)
      go_simp
      try with_reducible rfl
    try simp only [Act.put, List.setIfInBounds_toArray, List.set_cons_zero, List.set_cons_succ]
    refine take_in (i := 6) (v := ?_) rfl (by kernel_rfl) (by kernel_rfl) (by kernel_rfl) (fun _ _ _ h => by cases h.1) (by rfl) ?_ hHeld ?_
    rotate_left
    · intro w hSw
      (try dsimp only at hSw)
      go_simp
      try with_reducible rfl
    try simp only [Act.put, List.setIfInBounds_toArray, List.set_cons_zero, List.set_cons_succ]
    refine take_in (i := 7) (v := ?_) rfl (by kernel_rfl) (by kernel_rfl) (by kernel_rfl) (fun _ _ _ h => by cases h.1) (by rfl) ?_ hHeld ?_
    rotate_left
    · intro w hSw
      (try dsimp only at hSw)
      go_simp
      try with_reducible rfl
    try simp only [Act.put, List.setIfInBounds_toArray, List.set_cons_zero, List.set_cons_succ]
    refine two_in (i := 8) (j := 10) rfl rfl (by kernel_rfl) (fun K hK => ?_) (fun K hK => ?_)
    · clear hHeld
      go_simp
      go_at_call 54
      refine (CE.out _ (HB.out.trans (((Below.refl _ _).drew).mono HB.out.size))).mono ?_
      rintro e w5 ⟨V, rfl, hown, hb5⟩
      obtain ⟨va, vl, vc, rfl⟩ := ownL_slice hown
      have HB5 := Lib.hid ((Below.refl W2.heap.size W2).drew.trans hb5)
      have hP := ownL_lvP hown (by have := HLL.out; omega) 0 0
      have HP := Lib.hid (lvP_weak hP (Q := fun b => w.heap.size + 1 + 1 ≤ b) (fun b h => by have h : W2.heap.size ≤ b := h; omega))
      clear hb5 hown hP
      have hb6 := (below_lit w5 (.cells #[.int .i64 0, .int .i64 0, .string ⟨#[]⟩, .slice none 0 0, .slice none 0 0] 25))
      have n0 := heap_alloc_new w5 (.cells #[.int .i64 0, .int .i64 0, .string ⟨#[]⟩, .slice none 0 0, .slice none 0 0] 25)
      try (go_wp2_with fail)
      refine hK.out _ _ (hk.out _ HB5.out) (fun hHeld => ?_)
      clear hK K
      try simp only [Act.put, List.setIfInBounds_toArray, List.set_cons_zero, List.set_cons_succ]
      refine take_in (i := 9) (v := ?_) rfl (by kernel_rfl) (by kernel_rfl) (by kernel_rfl) (fun _ _ _ h => by cases h.1) (by rfl) ?_ hHeld ?_
      rotate_left
      · intro w hSw
        (try dsimp only at hSw)
        go_simp
        try with_reducible rfl
      try simp only [Act.put, List.setIfInBounds_toArray, List.set_cons_zero, List.set_cons_succ]
      refine call_in (i := 10) rfl (by kernel_rfl) (fun K hK => ?_)
      clear hHeld
      go_simp
      try (go_wp2_with fail)
      refine hK.out _ _ (hk.out _ (HB5.out.trans (hb6.mono HB5.out.size))) (fun hHeld => ?_)
      clear hK K
      try simp only [Act.put, List.setIfInBounds_toArray, List.set_cons_zero, List.set_cons_succ]
      refine call_in (i := 11) rfl (by kernel_rfl) (fun K hK => ?_)
      clear hHeld
      go_simp
      have hb7 := below_lit w5 (.cells #[.int .i64 k, .int .i64 n, .string m, .slice va vl vc, .slice none 0 0] 25)
      refine hK.out _ _ (hk.out _ (HB5.out.trans (hb7.mono HB5.out.size))) (fun _ => ?_)
      clear hK K
      refine wpAnyH_done (by kernel_rfl) ?_ _
      have q5 := HB5.out.size
      refine ⟨rfl, w5.heap.size, va, vl, vc, ⟨by omega, by simp, HB5.out.trans (hb7.mono HB5.out.size), heap_alloc_new w5 _, ?_⟩, rfl⟩
      exact lvP_move (fun b hlt hp => ⟨⟨hp, by omega⟩, hb7.block b hlt⟩) hb7.size _ _ HP.out
    · clear hHeld
      go_simp
      have hb3 := (below_lit W2 (.cells #[.int .i64 0, .int .i64 0, .string ⟨#[]⟩, .slice none 0 0, .slice none 0 0] 25)).drew
      have hs3 : ((W2.alloc (.cells #[.int .i64 0, .int .i64 0, .string ⟨#[]⟩, .slice none 0 0, .slice none 0 0] 25)).drew).heap.size = w.heap.size + 1 + 1 + 1 := by
        show (W2.alloc (.cells #[.int .i64 0, .int .i64 0, .string ⟨#[]⟩, .slice none 0 0, .slice none 0 0] 25)).heap.size = _
        simp [hsz2]
      have hr3 : ((W2.alloc (.cells #[.int .i64 0, .int .i64 0, .string ⟨#[]⟩, .slice none 0 0, .slice none 0 0] 25)).drew).heap[w.heap.size + 1 + 1]? = some (Obj.cells #[.int .i64 0, .int .i64 0, .string ⟨#[]⟩, .slice none 0 0, .slice none 0 0] 25 (0, 0)) := by
        have := heap_alloc_new W2 (.cells #[.int .i64 0, .int .i64 0, .string ⟨#[]⟩, .slice none 0 0, .slice none 0 0] 25)
        rw [hsz2] at this
        exact this
      have HB3 := Lib.hid hb3
      try (go_wp2_with fail)
      refine hK.out _ _ (hk.out _ HB3.out) (fun hHeld => ?_)
      clear hK K
      try simp only [Act.put, List.setIfInBounds_toArray, List.set_cons_zero, List.set_cons_succ]
      generalize (W2.alloc (.cells #[.int .i64 0, .int .i64 0, .string ⟨#[]⟩, .slice none 0 0, .slice none 0 0] 25)).drew = W3 at *
      have HR3 := Lib.hid hr3
      clear hr3 hb3
      refine call_in (i := 8) rfl (by kernel_rfl) (fun K hK => ?_)
      clear hHeld
      go_simp
      go_at_call 54
      refine (CE.out _ (HB.out.trans (HB3.out.mono HB.out.size))).mono ?_
      rintro e w5 ⟨V, rfl, hown, hb5⟩
      obtain ⟨va, vl, vc, rfl⟩ := ownL_slice hown
      have HB5 := Lib.hid (HB3.out.trans (hb5.mono HB3.out.size))
      have hP := ownL_lvP hown (by have := HLL.out; omega) 0 0
      have HP := Lib.hid (lvP_weak hP (Q := fun b => w.heap.size + 1 + 1 + 1 ≤ b) (fun b h => by have h : W3.heap.size ≤ b := h; omega))
      have hr5 := (hb5.block (w.heap.size + 1 + 1) (by rw [hs3]; omega)).trans HR3.out
      have HS5 : Hid (w.heap.size + 1 + 1 + 1 ≤ w5.heap.size) := by have := hb5.size; rw [hs3] at this; exact this
      clear hb5 hown hP
      obtain ⟨n0, n1, n2, n3, n4⟩ := five_cells hr5
      have m0 := frozen0 (p := 0) hr5
      have m1 := frozen0 (p := 1) hr5
      have m2 := frozen0 (p := 2) hr5
      have m3 := frozen0 (p := 3) hr5
      have m4 := frozen0 (p := 4) hr5
      try (go_wp2_with fail)
      refine hK.out _ _ (hk.out _ HB5.out) (fun hHeld => ?_)
      clear hK K
      try simp only [Act.put, List.setIfInBounds_toArray, List.set_cons_zero, List.set_cons_succ]
      refine take_in (i := 9) (v := ?_) rfl (by kernel_rfl) (by kernel_rfl) (by kernel_rfl) (fun _ _ _ h => by cases h.1) (by rfl) ?_ hHeld ?_
      rotate_left
      · intro w hSw
        (try dsimp only at hSw)
        go_simp
        try with_reducible rfl
      try simp only [Act.put, List.setIfInBounds_toArray, List.set_cons_zero, List.set_cons_succ]
      refine call_in (i := 11) rfl (by kernel_rfl) (fun K hK => ?_)
      clear hHeld
      go_simp
      have hb7 := set5_below (n₀ := W2.heap.size) HB5.out (w.heap.size + 1 + 1) 0 (.int .i64 k) (.int .i64 n) (.string m) (.slice va vl vc) (.slice none 0 0) (by omega)
      refine hK.out _ _ (hk.out _ hb7) (fun _ => ?_)
      clear hK K
      refine wpAnyH_done (by kernel_rfl) ?_ _
      refine ⟨rfl, w.heap.size + 1 + 1, va, vl, vc, ⟨by omega, by have := HS5.out; show _ < (((((w5.setCell _ _).setCell _ _).setCell _ _).setCell _ _).setCell _ _).heap.size; rw [setCell_size, setCell_size, setCell_size, setCell_size, setCell_size]; omega, hb7, set5_row hr5, ?_⟩, rfl⟩
      exact lvP_move (w := w5) (fun b _ hp => ⟨⟨by omega, by omega⟩, set5_far' w5 (w.heap.size + 1 + 1) 0 b _ _ _ _ _ (by omega)⟩) (by show w5.heap.size ≤ (((((w5.setCell _ _).setCell _ _).setCell _ _).setCell _ _).setCell _ _).heap.size; rw [setCell_size, setCell_size, setCell_size, setCell_size, setCell_size]; exact Nat.le_refl _) _ _ HP.out
  case rest =>
    rintro e a7 W3 ⟨rfl, Bo, va, vl, vc, ⟨hBo, hBl, hb3, hro, hlv⟩, rfl⟩
    have HB3 := Lib.hid (HB.out.trans (hb3.mono HB.out.size))
    have HR03 := Lib.hid ((hb3.block w.heap.size (by omega)).trans HR0.out)
    have HR13 := Lib.hid ((hb3.block (w.heap.size + 1) (by omega)).trans HR1.out)
    have hs3 : w.heap.size + 1 + 1 ≤ W3.heap.size := by rw [← hsz2]; exact hb3.size
    have hch := HCH.out W3 (w.heap.size + 1 + 1) Bo k n m (.slice va vl vc) ls d (HB0.out.trans (HB3.out.mono HB0.out.size)) (by have := HB0.out.size; omega) hBo hro hlv HOK.out.1.2 HLL.out HOK.out.1.1
    obtain ⟨n', hn'⟩ : ∃ q, (f k n ls d).1 = q := ⟨_, rfl⟩
    obtain ⟨ls', hls'⟩ : ∃ q, (f k n ls d).2 = q := ⟨_, rfl⟩
    rw [hn', hls'] at hch
    have HCALL := Lib.hid hch
    have HREM : Hid (remT f (.mk k n m ls ts) d = .mk k n' m ls' (remL f k ts.length ts 0 d)) := by
      have : remT f (.mk k n m ls ts) d = .mk k n' m ls' (remL f k ts.length ts 0 d) := by rw [remT, hn', hls']
      exact this
    have HRL := Lib.hid (remL_length f k ts.length ts 0 d)
    have HRG := Lib.hid (remL_get f k ts.length ts 0 d)
    have HOC := Lib.hid (okCL_get C k ts.length ts 0 d HOK.out.2)
    clear hch hn' hls' hb3 hro hlv hk HR0 HR1 HB HZ hsz2 HOK CE
    generalize remL f k ts.length ts 0 d = us at *
    go_wp2_with fail
    refine HCALL.out.mono ?_
    rintro e W4 ⟨⟨v4, rfl⟩, V', hro4, hlv4, hg4⟩
    obtain ⟨va', vl', vc', rfl⟩ := lvP_slice hlv4
    have HG4 := Lib.hid hg4
    have HR04 := Lib.hid ((hg4.block w.heap.size (by omega) (by simp; omega)).trans HR03.out)
    have HR14 := Lib.hid ((hg4.block (w.heap.size + 1) (by omega) (by simp; omega)).trans HR13.out)
    have HB4 := Lib.hid (HB3.out.grown hg4 HB3.out.size (fun k e => by cases e; omega))
    have HRO := Lib.hid hro4
    have HLV := Lib.hid hlv4
    have hs4 : W3.heap.size ≤ W4.heap.size := grown_size hg4
    obtain ⟨a0, a1, a2, a3, a4⟩ := five_cells HR04.out
    clear hg4 hro4 hlv4 HR03 HR13 HCALL
    by_cases hs0 : sl = 0
    · subst hs0
      obtain rfl : ts = [] := List.length_eq_zero_iff.1 HLEN.out
      obtain rfl : us = [] := List.length_eq_zero_iff.1 HRL.out
      go_wp2_with fail
      go_loopw [35] (fun i wr => i = .int .i64 0 ∧ wr = W4) (fun _ _ => 0)
      case atStart => exact ⟨rfl, rfl⟩
      case round =>
        obtain ⟨rfl, rfl⟩ := hrel
        obtain ⟨o0, o1, o2, o3, o4⟩ := five_cells HRO.out
        have hrz := HR14.out
        obtain ⟨e0, e1, e2, e3, e4⟩ := five_cells hrz
        have g0 := frozen0 (p := 0) hrz
        have g1 := frozen0 (p := 1) hrz
        have g2 := frozen0 (p := 2) hrz
        have g3 := frozen0 (p := 3) hrz
        have g4 := frozen0 (p := 4) hrz
        go_wp2_with fail
        refine bodyPost_ret (results_cell_row rfl _ _ (w.heap.size + 1) 25 _ (0, 0) _ rfl (set5_row hrz) Tryz.underlying25 rfl (by rw [hi0, Option.map_some, hz1]; rfl)) rfl ?_
        rw [HREM.out]
        refine ⟨_, _, rfl, ?_, set5_below HB4.out _ 0 _ _ _ _ _ (by omega)⟩
        rw [TmP]
        refine ⟨lvP_move (w := wr) (fun b _ hp => ⟨by omega, set5_far' wr (w.heap.size + 1) 0 b _ _ _ _ _ (by omega)⟩) (Nat.le_of_eq (set5_sz wr (w.heap.size + 1) 0 _ _ _ _ _).symm) _ _ HLV.out, none, 0, 0, rfl, rfl, Nat.le_refl _, by omega, fun _ => rfl, by rw [TsP]; trivial⟩
    · have hpos : decide ((0 : Int) < (sl : Int)) = true := by simp; omega
      have hslN : sl ≤ 100000 := by
        have h5 := tlen_nodes ts
        have h6 := HTN.out
        have h7 := HLEN.out
        omega
      have hmk := run_make (P := Tryz.prog) W4 23 25 i0 _ Tryz.underlying23 hi0 hz0 .i64 .i64 (sl : Int) (sl : Int) (by omega) (Int.le_refl _) (by rw [hz2]; omega) (by omega)
      rw [Int.toNat_natCast, hz1] at hmk
      have HMC := Lib.hid (size_madeCells (Value.agg #[.int .i64 0, .int .i64 0, .string ⟨#[]⟩, .slice none 0 0, .slice none 0 0]).cells (sl * 5))
      generalize madeCells (Value.agg #[.int .i64 0, .int .i64 0, .string ⟨#[]⟩, .slice none 0 0, .slice none 0 0]).cells (sl * 5) = MC at *
      have hroA := (heap_alloc_old W4 (.cells MC 25) (r := Bo) (by omega)).trans HRO.out
      have h4f := frozen0 (p := 4) hroA
      obtain ⟨o0, o1, o2, o3, o4⟩ := five_cells hroA
      obtain ⟨a0', a1', a2', a3', a4'⟩ := five_cells ((heap_alloc_old W4 (.cells MC 25) (r := w.heap.size) (by omega)).trans HR04.out)
      have a4'' := (cell_heap (p := 4) (setCell_far (W4.alloc (.cells MC 25)) ⟨Bo, 4, none⟩ (.slice (some ⟨W4.heap.size, 0, none⟩) sl sl) w.heap.size (by show w.heap.size ≠ Bo; omega))).trans a4'
      go_wp2_with fail
      have hroB : ((W4.alloc (.cells MC 25)).setCell ⟨Bo, 4, none⟩ (.slice (some ⟨W4.heap.size, 0, none⟩) sl sl)).heap[Bo]? = some (Obj.cells #[.int .i64 k, .int .i64 n', .string m, .slice va' vl' vc', .slice (some ⟨W4.heap.size, 0, none⟩) sl sl] 25 (0, 0)) := set1_row hroA
      have hfar : ∀ q, q ≠ Bo → ((W4.alloc (.cells MC 25)).setCell ⟨Bo, 4, none⟩ (.slice (some ⟨W4.heap.size, 0, none⟩) sl sl)).heap[q]? = (W4.alloc (.cells MC 25)).heap[q]? := fun q hq => setCell_far _ _ _ _ hq
      have hsz6 : ((W4.alloc (.cells MC 25)).setCell ⟨Bo, 4, none⟩ (.slice (some ⟨W4.heap.size, 0, none⟩) sl sl)).heap.size = W4.heap.size + 1 := by rw [setCell_size]; simp
      have hb6 : Below w.heap.size w ((W4.alloc (.cells MC 25)).setCell ⟨Bo, 4, none⟩ (.slice (some ⟨W4.heap.size, 0, none⟩) sl sl)) := below_set (HB4.out.alloc HB4.out.size _) _ _ (by show w.heap.size ≤ Bo; omega)
      have h06 := (hfar w.heap.size (by omega)).trans ((heap_alloc_old W4 (.cells MC 25) (r := w.heap.size) (by omega)).trans HR04.out)
      have h16 := (hfar (w.heap.size + 1) (by omega)).trans ((heap_alloc_old W4 (.cells MC 25) (r := w.heap.size + 1) (by omega)).trans HR14.out)
      have hA6 := (hfar W4.heap.size (by omega)).trans (heap_alloc_new W4 (.cells MC 25))
      have hlv6 : LvP ((W4.alloc (.cells MC 25)).setCell ⟨Bo, 4, none⟩ (.slice (some ⟨W4.heap.size, 0, none⟩) sl sl)) (fun b => w.heap.size + 1 + 1 ≤ b ∧ b ≠ Bo ∧ b < W4.heap.size) (.mk 0 0 ls') (.slice va' vl' vc') :=
        lvP_move (w := W4) (fun b hlt hp => ⟨⟨hp.1, hp.2, hlt⟩, (hfar b hp.2).trans (heap_alloc_old W4 _ hlt)⟩) (by rw [hsz6]; omega) _ _ HLV.out
      clear hroA h4f o0 o1 o2 o3 o4 a0' a1' a2' a3' a4' a4'' a0 a1 a2 a3 a4 hmk hfar HR04 HR14 HRO HLV
      generalize (W4.alloc (.cells MC 25)).setCell ⟨Bo, 4, none⟩ (.slice (some ⟨W4.heap.size, 0, none⟩) sl sl) = W6 at *
      have HRO := Lib.hid hroB
      have HB6 := Lib.hid hb6
      have HR06 := Lib.hid h06
      have HR16 := Lib.hid h16
      have HA6 := Lib.hid hA6
      have HLV6 := Lib.hid hlv6
      have HZ6 := Lib.hid hsz6
      clear hroB hb6 h06 h16 hA6 hlv6 hsz6
      generalize hBA : W4.heap.size = BA at *
      have hposN : decide (0 < sl) = true := by simp; omega
      try rw [hposN]
      go_loopw [35] (fun i wr => ∃ (j : Nat) (arr : Array Value), j ≤ sl ∧ i = .int .i64 j ∧ Hid (wr.heap[BA]? = some (Obj.cells arr 25 (0, 0))) ∧ arr.size = sl * 5 ∧ Hid (DoneTo W6.heap.size wr arr us j) ∧ Hid (W6.grownBy wr (some BA))) (fun i _ => sl - (intOf i).toNat)
      case atStart => exact ⟨0, MC, Nat.zero_le _, rfl, HA6.out, HMC.out, doneTo_zero _ _ _ _, grown_of _ (Below.refl _ _)⟩
      case round =>
        obtain ⟨j, arr, hj, rfl, harr, hasz, hdone, hgr⟩ := hrel
        have hsr : BA + 1 ≤ wr.heap.size := by have := grown_size hgr.out; have := HZ6.out; omega
        have HBr := Lib.hid (HB6.out.grown hgr.out HB6.out.size (fun k e => by cases e; omega))
        have HR0r := Lib.hid ((hgr.out.block w.heap.size (by have := HZ6.out; omega) (by simp; omega)).trans HR06.out)
        have HROr := Lib.hid ((hgr.out.block Bo (by have := HZ6.out; omega) (by simp; omega)).trans HRO.out)
        by_cases hlt : j < sl
        · have hx1 : j < ts.length := by rw [HLEN.out]; exact hlt
          have hu1 : j < us.length := by rw [HRL.out]; exact hx1
          have hln : decide ((j : Int) < (sl : Int)) = true := by simp; omega
          obtain ⟨bk, o, l1, s1, eA, hbs, _, hc0, hc1, hc2, hc3, hc4, htm⟩ := tsP_get HTS.out j hx1
          subst eA
          obtain ⟨⟨xa, xl, xc, rfl⟩, ya, yl, yc, rfl⟩ := tmP_slices htm
          have d0 := (HBr.out.cell (p := ⟨bk, _, none⟩) hbs).trans hc0
          have d1 := (HBr.out.cell (p := ⟨bk, _, none⟩) hbs).trans hc1
          have d2 := (HBr.out.cell (p := ⟨bk, _, none⟩) hbs).trans hc2
          have d3 := (HBr.out.cell (p := ⟨bk, _, none⟩) hbs).trans hc3
          have d4 := (HBr.out.cell (p := ⟨bk, _, none⟩) hbs).trans hc4
          obtain ⟨R, hR⟩ : ∃ R, bndP k ts.length j = R := ⟨_, rfl⟩
          have hR1' : R ≤ 1 := by rw [← hR]; exact bndP_le _ _ _
          have HRR : Hid (bndP k sl j = R) := by rw [← HLEN.out]; exact hR
          obtain ⟨dn, hdn⟩ : ∃ q, q = d + R := ⟨_, rfl⟩
          have hw1 : IntKind.i64.wrap ((d : Int) + (R : Int)) = (dn : Int) := (IntWalk.i64_in _ ⟨by omega, by omega⟩).trans (by omega)
          have hou := HRG.out j hx1 hu1
          rw [Nat.zero_add, hR, show (d : Int) + ((R : Nat) : Int) = (dn : Int) by omega] at hou
          have hoc := HOC.out j hx1
          rw [Nat.zero_add, hR, show (d : Int) + ((R : Nat) : Int) = (dn : Int) by omega] at hoc
          have hcall := IH.out ts[j] dn (tv ts[j] (.slice xa xl xc) (.slice ya yl yc))
          rw [← hou] at hcall
          have HCALL := Lib.hid (fun (w' : World) (hw : Below w.heap.size w w') => hcall w' (Nat.le_trans (tnodes_mem (List.getElem_mem hx1)) HTN.out) (by omega) (by omega) hoc (HB0.out.trans (hw.mono HB0.out.size)) ⟨_, _, rfl, tmP_below hw htm⟩)
          dsimp only [tv] at HCALL
          have q1 : (0 : Int) ≤ (j : Int) := by omega
          have q2 : (j : Int) < (sl : Int) := by omega
          clear hcall htm hc0 hc1 hc2 hc3 hc4 hR hou hoc
          generalize tkOf ts[j] = ka at *
          generalize tnOf ts[j] = na at *
          generalize tmOf ts[j] = ma at *
          obtain ⟨ku, hku⟩ : ∃ q, tkOf us[j] = q := ⟨_, rfl⟩
          obtain ⟨nu, hnu⟩ : ∃ q, tnOf us[j] = q := ⟨_, rfl⟩
          obtain ⟨mu, hmu⟩ : ∃ q, tmOf us[j] = q := ⟨_, rfl⟩
          have HU := Lib.hid (And.intro hku (And.intro hnu hmu))
          clear hku hnu hmu
          obtain ⟨k0, k1, k2, k3, k4⟩ := five_cells HR0r.out
          go_wp2_with fail
          have HB7 := Lib.hid (below_lit wr (.cells #[.int .i64 ka, .int .i64 na, .string ma, .slice xa xl xc, .slice ya yl yc] 25))
          have hr8 := heap_alloc_new wr (.cells #[.int .i64 ka, .int .i64 na, .string ma, .slice xa xl xc, .slice ya yl yc] 25)
          have hs8 : (wr.alloc (.cells #[.int .i64 ka, .int .i64 na, .string ma, .slice xa xl xc, .slice ya yl yc] 25)).heap.size = wr.heap.size + 1 := by simp
          have hk : Hid (∀ W', (wr.alloc (.cells #[.int .i64 ka, .int .i64 na, .string ma, .slice xa xl xc, .slice ya yl yc] 25)).grownBy W' (some BA) → W'.cell? ⟨Bo, 4, none⟩ = some (.slice (some ⟨BA, 0, none⟩) sl sl) ∧ W'.cell? ⟨wr.heap.size, 0, none⟩ = some (.int .i64 ka) ∧ W'.cell? ⟨wr.heap.size, 1, none⟩ = some (.int .i64 na) ∧ W'.cell? ⟨wr.heap.size, 2, none⟩ = some (.string ma) ∧ W'.cell? ⟨wr.heap.size, 3, none⟩ = some (.slice xa xl xc) ∧ W'.cell? ⟨wr.heap.size, 4, none⟩ = some (.slice ya yl yc) ∧ W'.cell? ⟨w.heap.size, 0, none⟩ = some (.int .i64 k) ∧ W'.cell? ⟨w.heap.size, 1, none⟩ = some (.int .i64 n) ∧ W'.cell? ⟨w.heap.size, 2, none⟩ = some (.string m) ∧ W'.cell? ⟨w.heap.size, 3, none⟩ = some (.slice la ll lc) ∧ W'.cell? ⟨w.heap.size, 4, none⟩ = some (.slice (some ⟨bk, o, none⟩) sl sc)) := fun W' h => by
            obtain ⟨b0, b1, b2, b3, b4⟩ := five_cells ((h.block Bo (by omega) (by simp; omega)).trans ((HB7.out.block Bo (by omega)).trans HROr.out))
            obtain ⟨e0, e1, e2, e3, e4⟩ := five_cells ((h.block wr.heap.size (by omega) (by simp; omega)).trans hr8)
            obtain ⟨a0, a1, a2, a3, a4⟩ := five_cells ((h.block w.heap.size (by omega) (by simp; omega)).trans ((HB7.out.block w.heap.size (by omega)).trans HR0r.out))
            exact ⟨b4, e0, e1, e2, e3, e4, a0, a1, a2, a3, a4⟩
          have HA7 := Lib.hid ((HB7.out.block BA (by omega)).trans harr.out)
          have hs7 : wr.heap.size < (wr.alloc (.cells #[.int .i64 ka, .int .i64 na, .string ma, .slice xa xl xc, .slice ya yl yc] 25)).heap.size := by omega
          generalize wr.alloc (.cells #[.int .i64 ka, .int .i64 na, .string ma, .slice xa xl xc, .slice ya yl yc] 25) = W7 at *
          clear d0 d1 d2 d3 d4 k0 k1 k2 k3 k4 hr8
          refine wp_region_held_drew (S := fun W' => W'.cell? ⟨Bo, 4, none⟩ = some (.slice (some ⟨BA, 0, none⟩) sl sl) ∧ W'.cell? ⟨wr.heap.size, 0, none⟩ = some (.int .i64 ka) ∧ W'.cell? ⟨wr.heap.size, 1, none⟩ = some (.int .i64 na) ∧ W'.cell? ⟨wr.heap.size, 2, none⟩ = some (.string ma) ∧ W'.cell? ⟨wr.heap.size, 3, none⟩ = some (.slice xa xl xc) ∧ W'.cell? ⟨wr.heap.size, 4, none⟩ = some (.slice ya yl yc) ∧ W'.cell? ⟨w.heap.size, 0, none⟩ = some (.int .i64 k) ∧ W'.cell? ⟨w.heap.size, 1, none⟩ = some (.int .i64 n) ∧ W'.cell? ⟨w.heap.size, 2, none⟩ = some (.string m) ∧ W'.cell? ⟨w.heap.size, 3, none⟩ = some (.slice la ll lc) ∧ W'.cell? ⟨w.heap.size, 4, none⟩ = some (.slice (some ⟨bk, o, none⟩) sl sc)) (by kernel_rfl) (hk.out _ (grown_of _ ((Below.refl _ _).drew))) (fun hHeld => ?_)
          refine take_in (i := 0) (v := ?_) rfl (by kernel_rfl) (by kernel_rfl) (by kernel_rfl) (fun _ _ _ h => h) (by rfl) ?_ hHeld ?_
          rotate_left
          · intro w hSw
            (try dsimp only at hSw)
            go_simp
            try with_reducible rfl
          try simp only [Act.put, List.setIfInBounds_toArray, List.set_cons_zero, List.set_cons_succ]
          refine take_in (i := 1) (v := ?_) rfl (by kernel_rfl) (by kernel_rfl) (by kernel_rfl) (fun _ _ _ h => h) (by rfl) ?_ hHeld ?_
          rotate_left
          · intro w hSw
            (try dsimp only at hSw)
            go_simp
            try with_reducible rfl
          try simp only [Act.put, List.setIfInBounds_toArray, List.set_cons_zero, List.set_cons_succ]
          refine take_in (i := 2) (v := ?_) rfl (by kernel_rfl) (by kernel_rfl) (by kernel_rfl) (fun _ _ _ h => h) (by rfl) ?_ hHeld ?_
          rotate_left
          · intro w hSw
            (try dsimp only at hSw)
            go_simp
            try with_reducible rfl
          try simp only [Act.put, List.setIfInBounds_toArray, List.set_cons_zero, List.set_cons_succ]
          refine take_in (i := 3) (v := ?_) rfl (by kernel_rfl) (by kernel_rfl) (by kernel_rfl) (fun _ _ _ h => h) (by rfl) ?_ hHeld ?_
          rotate_left
          · intro w hSw
            (try dsimp only at hSw)
            go_simp
            try with_reducible rfl
          try simp only [Act.put, List.setIfInBounds_toArray, List.set_cons_zero, List.set_cons_succ]
          refine take_in (i := 4) (v := ?_) rfl (by kernel_rfl) (by kernel_rfl) (by kernel_rfl) (fun _ _ _ h => h) (by rfl) ?_ hHeld ?_
          rotate_left
          · intro w hSw
            (try dsimp only at hSw)
            go_simp
            try with_reducible rfl
          try simp only [Act.put, List.setIfInBounds_toArray, List.set_cons_zero, List.set_cons_succ]
          refine take_in (i := 5) (v := ?_) rfl (by kernel_rfl) (by kernel_rfl) (by kernel_rfl) (fun _ _ _ h => h) (by rfl) ?_ hHeld ?_
          rotate_left
          · intro w hSw
            (try dsimp only at hSw)
            go_simp
            try with_reducible rfl
          try simp only [Act.put, List.setIfInBounds_toArray, List.set_cons_zero, List.set_cons_succ]
          refine take_in (i := 6) (v := ?_) rfl (by kernel_rfl) (by kernel_rfl) (by kernel_rfl) (fun _ _ _ h => h) (by rfl) ?_ hHeld ?_
          rotate_left
          · intro w hSw
            (try dsimp only at hSw)
            go_simp
            try with_reducible rfl
          try simp only [Act.put, List.setIfInBounds_toArray, List.set_cons_zero, List.set_cons_succ]
          refine take_in (i := 9) (v := ?_) rfl (by kernel_rfl) (by kernel_rfl) (by kernel_rfl) (fun _ _ _ h => h) (by rfl) ?_ hHeld ?_
          rotate_left
          · intro w hSw
            (try dsimp only at hSw)
            go_simp
            try with_reducible rfl
          try simp only [Act.put, List.setIfInBounds_toArray, List.set_cons_zero, List.set_cons_succ]
          refine call_in (i := 7) rfl (by kernel_rfl) (fun K hK => ?_)
          clear hHeld
          go_simp
          go_at_call 76
          refine (binds_is k n m _ (some ⟨bk, o, none⟩) sl sc j _ hl47 la ll lc rfl).mono ?_
          rintro e w5 ⟨rfl, hb5⟩
          rw [HRR.out]
          have HC5 := Lib.hid ((Below.refl W7.heap.size W7).drew.trans hb5)
          clear hb5
          try (go_wp2_with fail)
          refine hK.out _ _ (hk.out _ (grown_of _ HC5.out)) (fun hHeld => ?_)
          clear hK K
          try simp only [Act.put, List.setIfInBounds_toArray, List.set_cons_zero, List.set_cons_succ]
          refine take_in (i := 8) (v := ?_) rfl (by kernel_rfl) (by kernel_rfl) (by kernel_rfl) (fun _ _ _ h => h) (by rfl) ?_ hHeld ?_
          rotate_left
          · intro w hSw
            (try dsimp only at hSw)
            go_simp
            try with_reducible rfl
          try simp only [Act.put, List.setIfInBounds_toArray, List.set_cons_zero, List.set_cons_succ]
          refine call_in (i := 10) rfl (by kernel_rfl) (fun K hK => ?_)
          clear hHeld
          go_simp
          have HW5 := Lib.hid (HBr.out.trans ((HB7.out.trans (HC5.out.mono HB7.out.size)).mono HBr.out.size))
          go_at_call 52
          try rw [show (d : Int) + (R : Int) = (dn : Int) by omega]
          refine (HCALL.out w5 HW5.out).mono ?_
          rintro e w8 ⟨l9, s9, rfl, ht9, hb8⟩
          obtain ⟨⟨ua, ul, uc, rfl⟩, va9, vl9, vc9, rfl⟩ := tmP_slices ht9
          have HT9 := Lib.hid ht9
          have HC8 := Lib.hid (HC5.out.trans (hb8.mono HC5.out.size))
          have h58 := HC5.out.size
          dsimp only [tv]
          rw [HU.out.1, HU.out.2.1, HU.out.2.2]
          have hA8 := (HC8.out.block BA (by omega)).trans HA7.out
          have j5 : j * 5 + 4 < arr.size := by omega
          obtain ⟨p0, p0f⟩ := cell_of_arr hA8 (p := j * 5) (by omega)
          obtain ⟨p1, p1f⟩ := cell_of_arr hA8 (p := j * 5 + 1) (by omega)
          obtain ⟨p2, p2f⟩ := cell_of_arr hA8 (p := j * 5 + 2) (by omega)
          obtain ⟨p3, p3f⟩ := cell_of_arr hA8 (p := j * 5 + 3) (by omega)
          obtain ⟨p4, p4f⟩ := cell_of_arr hA8 (p := j * 5 + 4) (by omega)
          clear ht9 hb8
          try (go_wp2_with fail)
          refine hK.out _ _ (hk.out _ (grown_of _ HC8.out)) (fun hHeld => ?_)
          clear hK K
          try simp only [Act.put, List.setIfInBounds_toArray, List.set_cons_zero, List.set_cons_succ]
          refine take_in (i := 11) (v := ?_) rfl (by kernel_rfl) (by kernel_rfl) (by kernel_rfl) (fun _ _ _ h => h) (by rfl) ?_ hHeld ?_
          rotate_left
          · intro w hSw
            (try dsimp only at hSw)
            go_simp
            try with_reducible rfl
          try simp only [Act.put, List.setIfInBounds_toArray, List.set_cons_zero, List.set_cons_succ]
          refine call_in (i := 12) rfl (by kernel_rfl) (fun K hK => ?_)
          clear hHeld
          go_simp
          have hgr9 := set5_grown (q := j * 5) (x0 := .int .i64 ku) (x1 := .int .i64 nu) (x2 := .string mu) (x3 := .slice ua ul uc) (x4 := .slice va9 vl9 vc9) (grown_of (some BA) HC8.out)
          have hwr8 := HB7.out.trans (HC8.out.mono HB7.out.size)
          have HGR := Lib.hid (set5_grown (q := j * 5) (x0 := .int .i64 ku) (x1 := .int .i64 nu) (x2 := .string mu) (x3 := .slice ua ul uc) (x4 := .slice va9 vl9 vc9) (grown_below hgr.out hwr8))
          have HDN := Lib.hid (doneTo_step (b := BA) hdone.out hu1 hwr8 (by have := HZ6.out; omega) HU.out.1 HU.out.2.1 HU.out.2.2 j5 (tmP_weak (fun q hq => by have h1 := grown_size hgr.out; have h2 := hwr8.size; have h3 := HC5.out.size; have h4 := HB7.out.size; exact Nat.le_trans (by omega) hq) HT9.out))
          have HAR := Lib.hid (set5_row' (q := j * 5) (x0 := .int .i64 ku) (x1 := .int .i64 nu) (x2 := .string mu) (x3 := .slice ua ul uc) (x4 := .slice va9 vl9 vc9) hA8)
          have HAZ := set5_size arr (j * 5) (.int .i64 ku) (.int .i64 nu) (.string mu) (.slice ua ul uc) (.slice va9 vl9 vc9)
          refine hK.out _ _ (hk.out _ hgr9) (fun _ => ?_)
          clear hK K p0 p1 p2 p3 p4 p0f p1f p2f p3f p4f hgr9
          refine wpAnyH_done (by kernel_rfl) ?_ _
          generalize ((((w8.setCell ⟨BA, j * 5, none⟩ (.int .i64 ku)).setCell ⟨BA, j * 5 + 1, none⟩ (.int .i64 nu)).setCell ⟨BA, j * 5 + 2, none⟩ (.string mu)).setCell ⟨BA, j * 5 + 3, none⟩ (.slice ua ul uc)).setCell ⟨BA, j * 5 + 4, none⟩ (.slice va9 vl9 vc9) = w9 at *
          go_wp2_with fail
          go_roundw
          case rel =>
            exact ⟨j + 1, _, by omega, by go_num, HAR.out, HAZ.trans hasz, HDN.out, HGR.out⟩
          case measure => simp [intOf]; omega
        · obtain rfl : j = sl := by omega
          have hln : decide ((j : Int) < (j : Int)) = false := by simp
          have HR1r := Lib.hid ((hgr.out.block (w.heap.size + 1) (by have := HZ6.out; omega) (by simp; omega)).trans HR16.out)
          obtain ⟨o0, o1, o2, o3, o4⟩ := five_cells HROr.out
          have hrz := HR1r.out
          obtain ⟨e0, e1, e2, e3, e4⟩ := five_cells hrz
          have g0 := frozen0 (p := 0) hrz
          have g1 := frozen0 (p := 1) hrz
          have g2 := frozen0 (p := 2) hrz
          have g3 := frozen0 (p := 3) hrz
          have g4 := frozen0 (p := 4) hrz
          have hlu : us.length = j := HRL.out.trans HLEN.out
          have hdj := hdone.out
          rw [← hlu] at hdj
          go_wp2_with fail
          refine bodyPost_ret (results_cell_row rfl _ _ (w.heap.size + 1) 25 _ (0, 0) _ rfl (set5_row hrz) Tryz.underlying25 rfl (by rw [hi0, Option.map_some, hz1]; rfl)) rfl ?_
          rw [HREM.out]
          refine ⟨_, _, rfl, ?_, set5_below HBr.out _ 0 _ _ _ _ _ (by omega)⟩
          have hts' := doneTo_tsP (B := w.heap.size + 1 + 1) hdj harr.out (by omega) (by have := HZ6.out; omega)
          rw [TmP]
          refine ⟨lvP_move (w := wr) (fun b _ hp => ⟨by omega, set5_far' wr (w.heap.size + 1) 0 b _ _ _ _ _ (by omega)⟩) (Nat.le_of_eq (set5_sz wr (w.heap.size + 1) 0 _ _ _ _ _).symm) _ _ (lvP_move (w := W6) (w' := wr) (Q := fun b => w.heap.size + 1 + 1 ≤ b) (fun b hlt hp => ⟨hp.1, hgr.out.block b hlt (by simp; omega)⟩) (grown_size hgr.out) _ _ HLV6.out), some ⟨BA, 0, none⟩, j, j, rfl, hlu, Nat.le_refl _, by omega, (fun e => by cases e), ?_⟩
          exact tsP_move (w := wr) (fun b _ hp => ⟨by omega, set5_far' wr (w.heap.size + 1) 0 b _ _ _ _ _ (by omega)⟩) (Nat.le_of_eq (set5_sz wr (w.heap.size + 1) 0 _ _ _ _ _).symm) _ _ _ hts'
end Trm
end Go.Proofs.YtbkdecgfiiajnaaGreatDoor
