import Derived.Test.YtlijdgamobpndaaDoorJ23
import Derived.Test.YtlijdgamobpndaaDoorJ26
import Derived.Test.YtlijdgamobpndaaDoorJ17
import Derived.Test.YtlijdgamobpndaaDoorJ12
import Derived.Test.YtlijdgamobpndaaDoorJ30
import Derived.Test.YtlijdgamobpndaaDoorJ22
/-
  The contract of an arena's 'hold': the number of a term, the arguments of which are held ahead of it; 0 and an error, if there is no room.
  Conditions: the arena lies in memory as told by 'ArM', the term in blocks that are not the arena's; the term's parts have room.
-/
namespace Go.Proofs.YtlijdgamobpndaaDoor
open Go.RowKit Go.Maps
open Lvl
open Trm
namespace Arn
/-- Bytes as a text. -/
theorem conv_own {w : World} {base M : Nat} {v : Value} {ds : List UInt8} (h : w.ownsRow base 5 1 v M (ds.map bv)) : (convert 70 9 v).run Tryd.prog w = .ok (.string ⟨ds.toArray⟩) w := by
  have hl := own_len h
  rcases h.2 with ⟨rfl, h0⟩ | ⟨g, cap, cur, rfl, _⟩
  · obtain rfl : ds = [] := List.length_eq_zero_iff.1 (by omega)
    exact run_text_nil
  · obtain ⟨A, c, e, h1, _, _, hb⟩ := byt_of_own h
    cases e
    exact run_text_of hb h1
theorem set7_row {w : World} {b : Nat} {x0 x1 x2 x3 x4 x5 x6 y0 y1 y2 y3 y4 y5 y6 : Value} {T : TypeId} (h : w.heap[b]? = some (.cells #[x0, x1, x2, x3, x4, x5, x6] T (0, 0))) : (((((((w.setCell ⟨b, 0, none⟩ y0).setCell ⟨b, 1, none⟩ y1).setCell ⟨b, 2, none⟩ y2).setCell ⟨b, 3, none⟩ y3).setCell ⟨b, 4, none⟩ y4).setCell ⟨b, 5, none⟩ y5).setCell ⟨b, 6, none⟩ y6).heap[b]? = some (.cells #[y0, y1, y2, y3, y4, y5, y6] T (0, 0)) := by
  unfold World.setCell
  simp [Array.getElem?_modify, h]
theorem set7_below {n₀ : Nat} {w0 w : World} (hb : Below n₀ w0 w) (b : Nat) (x0 x1 x2 x3 x4 x5 x6 : Value) (h : n₀ ≤ b) : Below n₀ w0 (((((((w.setCell ⟨b, 0, none⟩ x0).setCell ⟨b, 1, none⟩ x1).setCell ⟨b, 2, none⟩ x2).setCell ⟨b, 3, none⟩ x3).setCell ⟨b, 4, none⟩ x4).setCell ⟨b, 5, none⟩ x5).setCell ⟨b, 6, none⟩ x6) :=
  below_set (below_set (below_set (below_set (below_set (below_set (below_set hb _ _ h) _ _ h) _ _ h) _ _ h) _ _ h) _ _ h) _ _ h
def HoldRet (base p bm most : Nat) (V : Value) (ns : List Nd) (t : Tm) (w : World) (e : Ending) (w' : World) : Prop :=
  ∃ V', e = .returned (.tuple #[.int .i64 ((holdT most t ns).1 : Nat), .int .i64 (if (holdT most t ns).1 = 0 then 24 else 0)]) ∧ ArM w' base p bm most V' (holdT most t ns).2 ∧ Kp p bm V w V' w'
/-- Of what was there only an arena's own blocks and one more have turned. -/
structure KpX (p bm x : Nat) (V : Value) (w : World) (V' : Value) (w' : World) : Prop where
  os : w'.os = w.os
  tape : w'.tape = w.tape
  output : w'.output = w.output
  size : w.heap.size ≤ w'.heap.size
  block : ∀ k, k < w.heap.size → k ≠ p → k ≠ bm → V.ownBlock ≠ some k → k ≠ x → w'.heap[k]? = w.heap[k]?
  moved : ∀ g, V'.ownBlock = some g → V.ownBlock = some g ∨ w.heap.size ≤ g
theorem KpX.refl (p bm x : Nat) (V : Value) (w : World) : KpX p bm x V w V w := ⟨rfl, rfl, rfl, Nat.le_refl _, fun _ _ _ _ _ _ => rfl, fun _ h => .inl h⟩
theorem KpX.trans {p bm x : Nat} {V V' V'' : Value} {w w' w'' : World} (h : KpX p bm x V w V' w') (k : Kp p bm V' w' V'' w'') : KpX p bm x V w V'' w'' := by
  refine ⟨k.os.trans h.os, k.tape.trans h.tape, k.output.trans h.output, Nat.le_trans h.size k.size, fun i hi h1 h2 h3 h4 => ?_, fun g hg => ?_⟩
  · refine (k.block i (Nat.lt_of_lt_of_le hi h.size) h1 h2 fun e => ?_).trans (h.block i hi h1 h2 h3 h4)
    rcases h.moved i e with e | e
    · exact h3 e
    · omega
  · rcases k.moved g hg with e | e
    · exact h.moved g e
    · exact .inr (Nat.le_trans h.size e)
theorem KpX.set {p bm x : Nat} {V V' : Value} {w w' : World} (h : KpX p bm x V w V' w') (i : Nat) (v : Value) : KpX p bm x V w V' (w'.setCell ⟨x, i, none⟩ v) :=
  ⟨h.os, h.tape, h.output, Nat.le_trans h.size (Nat.le_of_eq (setCell_size _ _ _).symm), fun k hk h1 h2 h3 h4 => (setCell_far _ _ _ _ h4).trans (h.block k hk h1 h2 h3 h4), h.moved⟩
theorem KpX.kp {p bm x : Nat} {V V' : Value} {w0 w w' : World} (h : KpX p bm x V w V' w') (hb : Below w0.heap.size w0 w) (hx : w0.heap.size ≤ x) : Kp p bm V w0 V' w' :=
  ⟨h.os.trans hb.os, h.tape.trans hb.tape, h.output.trans hb.output, Nat.le_trans hb.size h.size, fun k hk h1 h2 h3 => (h.block k (Nat.lt_of_lt_of_le hk hb.size) h1 h2 h3 (by omega)).trans (hb.block k hk), fun g hg => by
    rcases h.moved g hg with e | e
    · exact .inl e
    · exact .inr (Nat.le_trans hb.size e)⟩
theorem ArM.set {w : World} {base p bm most : Nat} {V : Value} {ns : List Nd} (h : ArM w base p bm most V ns) {x : Nat} (h1 : x ≠ p) (h2 : x ≠ bm) (h3 : V.ownBlock ≠ some x) (i : Nat) (v : Value) : ArM (w.setCell ⟨x, i, none⟩ v) base p bm most V ns := by
  obtain ⟨D, d1, d2⟩ := h.map
  exact ⟨(setCell_far _ _ _ _ h1.symm).trans h.row, own_keep h.own fun g hg => setCell_far _ _ _ _ (fun e => h3 (by have e' : g = x := e; rw [← e']; exact hg)), ⟨D, map_keep d1 (setCell_far _ _ _ _ h2.symm), d2⟩, h.pb, h.mb, h.le, h.room, h.good⟩
/-- A key's cells, as they are filled. -/
abbrev krow (k n : Int) (m lvs : ByteArray) (ids : List Nat) : Array Value := #[.int .i64 k, .int .i64 n, .string m, .string lvs, .int .i64 (ids.getD 0 0 : Nat), .int .i64 (ids.getD 1 0 : Nat), .int .i64 (ids.getD 2 0 : Nat)]
theorem krow_set {w : World} {b j : Nat} {k n : Int} {m lvs : ByteArray} {ids : List Nat} {T : TypeId} (h : w.heap[b]? = some (.cells (krow k n m lvs ids) T (0, 0))) (hl : ids.length = j) (hj : j < 3) (i : Nat) :
    (w.setCell ⟨b, 4 + j, none⟩ (.int .i64 (i : Nat))).heap[b]? = some (.cells (krow k n m lvs (ids ++ [i])) T (0, 0)) := by
  have : j = 0 ∨ j = 1 ∨ j = 2 := by omega
  match ids, hl with
  | [], rfl => unfold World.setCell; simp [Array.getElem?_modify, h]
  | [a], rfl => unfold World.setCell; simp [Array.getElem?_modify, h]
  | [a, c], rfl => unfold World.setCell; simp [Array.getElem?_modify, h]
  | _ :: _ :: _ :: _, e => simp at e; omega
theorem krow_cell {w : World} {b j : Nat} {k n : Int} {m lvs : ByteArray} {ids : List Nat} {T : TypeId} (h : w.heap[b]? = some (.cells (krow k n m lvs ids) T (0, 0))) (hj : j < 3) : ∃ u : Value, w.cell? ⟨b, 4 + j, none⟩ = some u := by
  rw [cell_of_row w b (4 + j) _ T (0, 0) h]
  have : j = 0 ∨ j = 1 ∨ j = 2 := by omega
  rcases this with rfl | rfl | rfl
  · exact ⟨_, rfl⟩
  · exact ⟨_, rfl⟩
  · exact ⟨_, rfl⟩
theorem getD_le {ids : List Nat} {M : Nat} (h : ∀ i ∈ ids, i ≤ M) (j : Nat) : ids.getD j 0 ≤ M := by
  rw [List.getD_eq_getElem?_getD]
  cases e : ids[j]? with
  | none => simp
  | some x => exact h x (List.mem_of_getElem? e)
set_option maxRecDepth 100000 in
set_option maxHeartbeats 1500000 in
theorem hold_up : ∀ (N : Nat) (t : Tm) (l s : Value) (w : World) (base p bm most : Nat) (V : Value) (ns : List Nd), tnodes t ≤ N → ArM w base p bm most V ns → base ≤ w.heap.size → okH t → TmP w (fun b => b ≠ p ∧ b ≠ bm ∧ V.ownBlock ≠ some b) t l s →
    Calls Tryd.prog 25 #[.pointer (some ⟨p, 0, none⟩), tv t l s] w (HoldRet base p bm most V ns t w) := by
  intro N
  induction N with
  | zero => intro t _ _ _ _ _ _ _ _ _ h; have := tnodes_pos t; omega
  | succ N ih =>
  intro t l s w base p bm most V ns hN ha hbase hok ht
  obtain ⟨⟨la, ll, lc, rfl⟩, sa, sl, sc, rfl⟩ := tmP_slices ht
  cases t with
  | mk k n m ls ts =>
  rw [TmP] at ht
  obtain ⟨hls, A', len', cap', e9, hlen, hlc', hl47, hnone, hts⟩ := ht
  cases e9
  rw [okH] at hok
  have IH := Lib.hid ih
  have HA := Lib.hid ha
  have HTS := Lib.hid hts
  have HLEN := Lib.hid hlen
  have HO1 := Lib.hid hok.1
  have HOL := Lib.hid hok.2
  have HLS := Lib.hid (lvS_of _ _ hls)
  have HSM := Lib.hid hok.1.2.2.2.2.2.1
  have HLN := Lib.hid hok.1.2.2.2.2.2.2.1
  have hl3 : sl ≤ 3 := by rw [← hlen]; exact hok.1.2.2.2.2.2.2.2
  have hpl := ha.plt
  rw [tnodes] at hN
  have HTN : Hid (tnodesL ts ≤ N) := by
    have : tnodesL ts ≤ N := by omega
    exact this
  obtain ⟨lvs, hlvs⟩ : ∃ q, lvB ls = q := ⟨_, rfl⟩
  have HLVS := Lib.hid hlvs
  dsimp only [tv]
  clear ih ha hts hlen hok hls hN hlvs
  go_enter Tryd.func25, Tryd.ntmps25
  go_wp2_with fail
  have z1 : (w.alloc (.cells #[.int .i64 k, .int .i64 n, .string m, .slice la ll lc, .slice sa sl sc] 25)).heap.size = w.heap.size + 1 := by simp
  have r0 : (w.alloc (.cells #[.int .i64 k, .int .i64 n, .string m, .slice la ll lc, .slice sa sl sc] 25)).heap[w.heap.size]? = some (Obj.cells #[.int .i64 k, .int .i64 n, .string m, .slice la ll lc, .slice sa sl sc] 25 (0, 0)) := by
    have := heap_alloc_new w (.cells #[.int .i64 k, .int .i64 n, .string m, .slice la ll lc, .slice sa sl sc] 25)
    exact this
  have HB := Lib.hid (below_lit w (.cells #[.int .i64 k, .int .i64 n, .string m, .slice la ll lc, .slice sa sl sc] 25))
  have HR0 := Lib.hid (r0)
  clear r0
  generalize (w.alloc (.cells #[.int .i64 k, .int .i64 n, .string m, .slice la ll lc, .slice sa sl sc] 25)) = W at *
  have HZ := Lib.hid z1
  clear z1
  have hk : Hid (∀ W', Below W.heap.size W W' → W'.cell? ⟨w.heap.size, 0, none⟩ = some (.int .i64 k) ∧ W'.cell? ⟨w.heap.size, 1, none⟩ = some (.int .i64 n) ∧ W'.cell? ⟨w.heap.size, 2, none⟩ = some (.string m) ∧ W'.cell? ⟨w.heap.size, 3, none⟩ = some (.slice la ll lc) ∧ W'.cell? ⟨w.heap.size, 4, none⟩ = some (.slice sa sl sc)) := fun W' h => five_cells ((h.block w.heap.size (by rw [HZ.out]; omega)).trans HR0.out)
  have hszW := HZ.out
  refine wp_mono (Q := fun e a' W' => e = .normal ∧ ∃ (Bo : Nat) (v5 : Value), (w.heap.size + 1 ≤ Bo ∧ Bo < W'.heap.size ∧ Below W.heap.size W W' ∧ W'.heap[Bo]? = some (.cells #[.int .i64 k, .int .i64 n, .string m, .string lvs, .int .i64 0, .int .i64 0, .int .i64 0] 56 (0, 0))) ∧ a' = { tmps := #[.pointer (some ⟨p, 0, none⟩), .agg #[.int .i64 k, .int .i64 n, .string m, .slice la ll lc, .slice sa sl sc], undef, .pointer (some ⟨w.heap.size, 0, none⟩), .int .i64 0, .int .i64 0, .pointer (some ⟨Bo, 0, none⟩), undef, undef, undef, undef, .pointer (some ⟨w.heap.size, 0, none⟩), .int .i64 k, .pointer (some ⟨w.heap.size, 1, none⟩), .int .i64 n, .pointer (some ⟨w.heap.size, 2, none⟩), .string m, .pointer (some ⟨w.heap.size, 3, none⟩), .slice la ll lc, v5, .string lvs, .agg #[.int .i64 k, .int .i64 n, .string m, .string lvs, .int .i64 0, .int .i64 0, .int .i64 0], undef, undef, undef, undef, undef, undef, undef, undef, undef, undef, undef, undef, undef, undef, undef, undef, undef, undef, undef, undef, undef, undef, undef, undef, undef, undef, undef], defers := [] }) ?region ?rest
  case region =>
    refine wp_region_held_drew (S := fun W' => W'.cell? ⟨w.heap.size, 0, none⟩ = some (.int .i64 k) ∧ W'.cell? ⟨w.heap.size, 1, none⟩ = some (.int .i64 n) ∧ W'.cell? ⟨w.heap.size, 2, none⟩ = some (.string m) ∧ W'.cell? ⟨w.heap.size, 3, none⟩ = some (.slice la ll lc) ∧ W'.cell? ⟨w.heap.size, 4, none⟩ = some (.slice sa sl sc)) (by kernel_rfl) (hk.out _ ((Below.refl _ _).drew)) (fun hHeld => ?_)
    refine take_in (i := 0) (v := ?_) rfl (by kernel_rfl) (by kernel_rfl) (by kernel_rfl) (fun _ _ _ h => by cases h.1) (by rfl) ?_ hHeld ?_
    rotate_left
    · intro w hSw
      (try dsimp only at hSw)
      go_simp
      try with_reducible rfl
    try simp only [Act.put, List.setIfInBounds_toArray, List.set_cons_zero, List.set_cons_succ]
    refine take_in (i := 1) (v := ?_) rfl (by kernel_rfl) (by kernel_rfl) (by kernel_rfl) (fun _ _ _ h => by cases h.1) (by rfl) ?_ hHeld ?_
    rotate_left
    · intro w hSw
      (try dsimp only at hSw)
      go_simp
      try with_reducible rfl
    try simp only [Act.put, List.setIfInBounds_toArray, List.set_cons_zero, List.set_cons_succ]
    refine take_in (i := 2) (v := ?_) rfl (by kernel_rfl) (by kernel_rfl) (by kernel_rfl) (fun _ _ _ h => by cases h.1) (by rfl) ?_ hHeld ?_
    rotate_left
    · intro w hSw
      (try dsimp only at hSw)
      go_simp
      try with_reducible rfl
    try simp only [Act.put, List.setIfInBounds_toArray, List.set_cons_zero, List.set_cons_succ]
    refine take_in (i := 3) (v := ?_) rfl (by kernel_rfl) (by kernel_rfl) (by kernel_rfl) (fun _ _ _ h => by cases h.1) (by rfl) ?_ hHeld ?_
    rotate_left
    · intro w hSw
      (try dsimp only at hSw)
      go_simp
      try with_reducible rfl
    try simp only [Act.put, List.setIfInBounds_toArray, List.set_cons_zero, List.set_cons_succ]
    refine take_in (i := 4) (v := ?_) rfl (by kernel_rfl) (by kernel_rfl) (by kernel_rfl) (fun _ _ _ h => by cases h.1) (by rfl) ?_ hHeld ?_
    rotate_left
    · intro w hSw
      (try dsimp only at hSw)
      go_simp
      try with_reducible rfl
    try simp only [Act.put, List.setIfInBounds_toArray, List.set_cons_zero, List.set_cons_succ]
    refine take_in (i := 5) (v := ?_) rfl (by kernel_rfl) (by kernel_rfl) (by kernel_rfl) (fun _ _ _ h => by cases h.1) (by rfl) ?_ hHeld ?_
    rotate_left
    · intro w hSw
      (try dsimp only at hSw)
      go_simp
      try with_reducible rfl
    try simp only [Act.put, List.setIfInBounds_toArray, List.set_cons_zero, List.set_cons_succ]
    refine take_in (i := 6) (v := ?_) rfl (by kernel_rfl) (by kernel_rfl) (by kernel_rfl) (fun _ _ _ h => by cases h.1) (by rfl) ?_ hHeld ?_
    rotate_left
    · intro w hSw
      (try dsimp only at hSw)
      go_simp
      try with_reducible rfl
    try simp only [Act.put, List.setIfInBounds_toArray, List.set_cons_zero, List.set_cons_succ]
    refine take_in (i := 7) (v := ?_) rfl (by kernel_rfl) (by kernel_rfl) (by kernel_rfl) (fun _ _ _ h => by cases h.1) (by rfl) ?_ hHeld ?_
    rotate_left
    · intro w hSw
      (try dsimp only at hSw)
      go_simp
      try with_reducible rfl
    try simp only [Act.put, List.setIfInBounds_toArray, List.set_cons_zero, List.set_cons_succ]
    refine two_in (i := 8) (j := 11) rfl rfl (by kernel_rfl) (fun K hK => ?_) (fun K hK => ?_)
    · clear hHeld
      go_simp
      go_at_call 36
      refine (levelBytes_up (nodesL ls) 0 0 ls _ _ (Nat.le_refl _) HLN.out HSM.out (lvS_below (HB.out.trans (((Below.refl _ _).drew).mono HB.out.size)) _ _ HLS.out)).mono ?_
      rintro e w5 ⟨v5, M5, rfl, hown5, hb5⟩
      have HB5 := Lib.hid ((Below.refl W.heap.size W).drew.trans hb5)
      have hcv := conv_own hown5
      have hcv2 := conv_own (own_alloc hown5 (.cells #[.int .i64 0, .int .i64 0, .string ⟨#[]⟩, .string ⟨#[]⟩, .int .i64 0, .int .i64 0, .int .i64 0] 56))
      rw [show (⟨(encL ls).toArray⟩ : ByteArray) = lvs from HLVS.out] at hcv hcv2
      have hb6 := below_lit w5 (.cells #[.int .i64 0, .int .i64 0, .string ⟨#[]⟩, .string ⟨#[]⟩, .int .i64 0, .int .i64 0, .int .i64 0] 56)
      have hb7 := below_lit w5 (.cells #[.int .i64 k, .int .i64 n, .string m, .string lvs, .int .i64 0, .int .i64 0, .int .i64 0] 56)
      have hs5 := hb5.size
      have HS5 : Hid (w.heap.size + 1 ≤ w5.heap.size) := by
        have : w.heap.size + 1 ≤ w5.heap.size := by rw [← hszW]; exact hs5
        exact this
      clear hown5 hb5 hs5
      try (go_wp2_with fail)
      refine hK.out _ _ (hk.out _ HB5.out) (fun hHeld => ?_)
      clear hK K
      try simp only [Act.put, List.setIfInBounds_toArray, List.set_cons_zero, List.set_cons_succ]
      refine two_in (i := 9) (j := 11) rfl rfl (by kernel_rfl) (fun K hK => ?_) (fun K hK => ?_)
      · clear hHeld
        go_simp
        try (go_wp2_with fail)
        refine hK.out _ _ (hk.out _ HB5.out) (fun hHeld => ?_)
        clear hK K
        try simp only [Act.put, List.setIfInBounds_toArray, List.set_cons_zero, List.set_cons_succ]
        refine take_in (i := 10) (v := ?_) rfl (by kernel_rfl) (by kernel_rfl) (by kernel_rfl) (fun _ _ _ h => by cases h.1) (by rfl) ?_ hHeld ?_
        rotate_left
        · intro w hSw
          (try dsimp only at hSw)
          go_simp
          try with_reducible rfl
        try simp only [Act.put, List.setIfInBounds_toArray, List.set_cons_zero, List.set_cons_succ]
        refine call_in (i := 11) rfl (by kernel_rfl) (fun K hK => ?_)
        clear hHeld
        go_simp
        try (go_wp2_with fail)
        refine hK.out _ _ (hk.out _ (HB5.out.trans (hb6.mono HB5.out.size))) (fun hHeld => ?_)
        clear hK K
        try simp only [Act.put, List.setIfInBounds_toArray, List.set_cons_zero, List.set_cons_succ]
        refine call_in (i := 12) rfl (by kernel_rfl) (fun K hK => ?_)
        clear hHeld
        go_simp
        refine hK.out _ _ (hk.out _ (HB5.out.trans (hb7.mono HB5.out.size))) (fun _ => ?_)
        clear hK K
        refine wpAnyH_done (by kernel_rfl) ?_ _
        exact ⟨rfl, w5.heap.size, v5, ⟨HS5.out, by simp, HB5.out.trans (hb7.mono HB5.out.size), heap_alloc_new w5 _⟩, rfl⟩
      · clear hHeld
        go_simp
        try (go_wp2_with fail)
        refine hK.out _ _ (hk.out _ (HB5.out.trans (hb6.mono HB5.out.size))) (fun hHeld => ?_)
        clear hK K
        try simp only [Act.put, List.setIfInBounds_toArray, List.set_cons_zero, List.set_cons_succ]
        refine call_in (i := 9) rfl (by kernel_rfl) (fun K hK => ?_)
        clear hHeld
        go_simp
        try (go_wp2_with fail)
        refine hK.out _ _ (hk.out _ (HB5.out.trans (hb6.mono HB5.out.size))) (fun hHeld => ?_)
        clear hK K
        try simp only [Act.put, List.setIfInBounds_toArray, List.set_cons_zero, List.set_cons_succ]
        refine take_in (i := 10) (v := ?_) rfl (by kernel_rfl) (by kernel_rfl) (by kernel_rfl) (fun _ _ _ h => by cases h.1) (by rfl) ?_ hHeld ?_
        rotate_left
        · intro w hSw
          (try dsimp only at hSw)
          go_simp
          try with_reducible rfl
        try simp only [Act.put, List.setIfInBounds_toArray, List.set_cons_zero, List.set_cons_succ]
        refine call_in (i := 12) rfl (by kernel_rfl) (fun K hK => ?_)
        clear hHeld
        go_simp
        refine hK.out _ _ (hk.out _ (HB5.out.trans (hb7.mono HB5.out.size))) (fun _ => ?_)
        clear hK K
        refine wpAnyH_done (by kernel_rfl) ?_ _
        exact ⟨rfl, w5.heap.size, v5, ⟨HS5.out, by simp, HB5.out.trans (hb7.mono HB5.out.size), heap_alloc_new w5 _⟩, rfl⟩
    · clear hHeld
      go_simp
      have hb3 := (below_lit W (.cells #[.int .i64 0, .int .i64 0, .string ⟨#[]⟩, .string ⟨#[]⟩, .int .i64 0, .int .i64 0, .int .i64 0] 56)).drew
      have hs3 : ((W.alloc (.cells #[.int .i64 0, .int .i64 0, .string ⟨#[]⟩, .string ⟨#[]⟩, .int .i64 0, .int .i64 0, .int .i64 0] 56)).drew).heap.size = w.heap.size + 1 + 1 := by
        show (W.alloc (.cells #[.int .i64 0, .int .i64 0, .string ⟨#[]⟩, .string ⟨#[]⟩, .int .i64 0, .int .i64 0, .int .i64 0] 56)).heap.size = _
        simp [hszW]
      have hr3 : ((W.alloc (.cells #[.int .i64 0, .int .i64 0, .string ⟨#[]⟩, .string ⟨#[]⟩, .int .i64 0, .int .i64 0, .int .i64 0] 56)).drew).heap[w.heap.size + 1]? = some (Obj.cells #[.int .i64 0, .int .i64 0, .string ⟨#[]⟩, .string ⟨#[]⟩, .int .i64 0, .int .i64 0, .int .i64 0] 56 (0, 0)) := by
        have := heap_alloc_new W (.cells #[.int .i64 0, .int .i64 0, .string ⟨#[]⟩, .string ⟨#[]⟩, .int .i64 0, .int .i64 0, .int .i64 0] 56)
        rw [hszW] at this
        exact this
      have HB3 := Lib.hid hb3
      try (go_wp2_with fail)
      refine hK.out _ _ (hk.out _ HB3.out) (fun hHeld => ?_)
      clear hK K
      try simp only [Act.put, List.setIfInBounds_toArray, List.set_cons_zero, List.set_cons_succ]
      generalize (W.alloc (.cells #[.int .i64 0, .int .i64 0, .string ⟨#[]⟩, .string ⟨#[]⟩, .int .i64 0, .int .i64 0, .int .i64 0] 56)).drew = W3 at *
      have HR3 := Lib.hid hr3
      clear hr3 hb3
      refine call_in (i := 8) rfl (by kernel_rfl) (fun K hK => ?_)
      clear hHeld
      go_simp
      go_at_call 36
      refine (levelBytes_up (nodesL ls) 0 0 ls _ _ (Nat.le_refl _) HLN.out HSM.out (lvS_below (HB.out.trans (HB3.out.mono HB.out.size)) _ _ HLS.out)).mono ?_
      rintro e w5 ⟨v5, M5, rfl, hown5, hb5⟩
      have HB5 := Lib.hid (HB3.out.trans (hb5.mono HB3.out.size))
      have hcv := conv_own hown5
      rw [show (⟨(encL ls).toArray⟩ : ByteArray) = lvs from HLVS.out] at hcv
      have hr5 := (hb5.block (w.heap.size + 1) (by rw [hs3]; omega)).trans HR3.out
      have HS5 : Hid (w.heap.size + 1 + 1 ≤ w5.heap.size) := by have := hb5.size; rw [hs3] at this; exact this
      clear hown5 hb5
      obtain ⟨n0, n1, n2, n3, n4, n5, n6⟩ := seven_cells hr5
      have m0 := frozen0 (p := 0) hr5
      have m1 := frozen0 (p := 1) hr5
      have m2 := frozen0 (p := 2) hr5
      have m3 := frozen0 (p := 3) hr5
      have m4 := frozen0 (p := 4) hr5
      have m5 := frozen0 (p := 5) hr5
      have m6 := frozen0 (p := 6) hr5
      try (go_wp2_with fail)
      refine hK.out _ _ (hk.out _ HB5.out) (fun hHeld => ?_)
      clear hK K
      try simp only [Act.put, List.setIfInBounds_toArray, List.set_cons_zero, List.set_cons_succ]
      refine call_in (i := 9) rfl (by kernel_rfl) (fun K hK => ?_)
      clear hHeld
      go_simp
      try (go_wp2_with fail)
      refine hK.out _ _ (hk.out _ HB5.out) (fun hHeld => ?_)
      clear hK K
      try simp only [Act.put, List.setIfInBounds_toArray, List.set_cons_zero, List.set_cons_succ]
      refine take_in (i := 10) (v := ?_) rfl (by kernel_rfl) (by kernel_rfl) (by kernel_rfl) (fun _ _ _ h => by cases h.1) (by rfl) ?_ hHeld ?_
      rotate_left
      · intro w hSw
        (try dsimp only at hSw)
        go_simp
        try with_reducible rfl
      try simp only [Act.put, List.setIfInBounds_toArray, List.set_cons_zero, List.set_cons_succ]
      refine call_in (i := 12) rfl (by kernel_rfl) (fun K hK => ?_)
      clear hHeld
      go_simp
      have hb7 := set7_below (n₀ := W.heap.size) HB5.out (w.heap.size + 1) (.int .i64 k) (.int .i64 n) (.string m) (.string lvs) (.int .i64 0) (.int .i64 0) (.int .i64 0) (by omega)
      refine hK.out _ _ (hk.out _ hb7) (fun _ => ?_)
      clear hK K
      refine wpAnyH_done (by kernel_rfl) ?_ _
      exact ⟨rfl, w.heap.size + 1, v5, ⟨Nat.le_refl _, (Array.getElem?_eq_some_iff.1 (set7_row hr5)).1, hb7, set7_row hr5⟩, rfl⟩
  case rest =>
    rintro e a7 W3 ⟨rfl, Bo, v5, ⟨hBo, hBl, hb3, hro⟩, rfl⟩
    have HB3 := Lib.hid (HB.out.trans (hb3.mono HB.out.size))
    have HR03 := Lib.hid ((hb3.block w.heap.size (by omega)).trans HR0.out)
    have HRO := Lib.hid hro
    have HA3 := Lib.hid (HA.out.below HB3.out)
    have hml := HA.out.mlt
    have HVL : Hid (∀ g, V.ownBlock = some g → g < w.heap.size) := fun g hg => (HA.out.vlt g hg).2
    obtain ⟨a0, a1, a2, a3, a4⟩ := five_cells HR03.out
    clear hk HR0 HB HZ hb3 hro hszW
    go_wp2_with fail
    go_loopw [7, 8, 9, 10, 25] (fun _ _ _ _ i wr => ∃ (j : Nat) (Vj : Value) (nsj : List Nd) (ids : List Nat), j ≤ sl ∧ i = .int .i64 j ∧ Hid (holdL most (ts.take j) ns = (some ids, nsj)) ∧ Hid (wr.heap[Bo]? = some (.cells (krow k n m lvs ids) 56 (0, 0))) ∧ Hid (ArM wr base p bm most Vj nsj) ∧ Hid (KpX p bm Bo V W3 Vj wr)) (fun _ _ _ _ i _ => sl - (intOf i).toNat)
    case atStart =>
      have h9 : holdL most (ts.take 0) ns = (some [], ns) := by rw [List.take_zero, holdL]
      exact ⟨0, V, ns, [], Nat.zero_le _, rfl, h9, HRO.out, HA3.out, KpX.refl _ _ _ _ _⟩
    case round =>
      obtain ⟨j, Vj, nsj, ids, hj, rfl, hhl, hrow, haj, hkx⟩ := hrel
      have hsz := hkx.out.size
      have hsz3 := HB3.out.size
      have hidl : ids.length = j := by
        have h1 := ((holdL_le most (ts.take j) ns).1 ids (by rw [hhl.out])).1
        rw [List.length_take] at h1
        have h2 := HLEN.out
        omega
      have HVJ : Hid (∀ g, Vj.ownBlock = some g → g < w.heap.size ∨ W3.heap.size ≤ g) := fun g hg => by
        rcases hkx.out.moved g hg with e | e
        · exact .inl (HVL.out g e)
        · exact .inr e
      by_cases hlt : j < sl
      · have hx1 : j < ts.length := by rw [HLEN.out]; exact hlt
        have hln : decide ((j : Int) < (sl : Int)) = true := by simp; omega
        obtain ⟨b, o, l1, s1, eA, hbs, hbP, hc0, hc1, hc2, hc3, hc4, htm⟩ := tsP_get HTS.out j hx1
        subst eA
        obtain ⟨⟨xa, xl, xc, rfl⟩, ya, yl, yc, rfl⟩ := tmP_slices htm
        have hkeep : ∀ q, q < w.heap.size → (q ≠ p ∧ q ≠ bm ∧ V.ownBlock ≠ some q) → wr.heap[q]? = w.heap[q]? := fun q hq hp =>
          (hkx.out.block q (Nat.lt_of_lt_of_le hq hsz3) hp.1 hp.2.1 hp.2.2 (by omega)).trans (HB3.out.block q hq)
        have hbk := hkeep b hbs hbP
        have hc0 := (cell_heap hbk).trans hc0
        have hc1 := (cell_heap hbk).trans hc1
        have hc2 := (cell_heap hbk).trans hc2
        have hc3 := (cell_heap hbk).trans hc3
        have hc4 := (cell_heap hbk).trans hc4
        have htm2 : TmP wr (fun q => q ≠ p ∧ q ≠ bm ∧ Vj.ownBlock ≠ some q) ts[j] (.slice xa xl xc) (.slice ya yl yc) := tmP_move (w := w) (fun q hq hp => ⟨⟨hp.1, hp.2.1, fun e => by
          rcases hkx.out.moved q e with e | e
          · exact hp.2.2 e
          · omega⟩, hkeep q hq hp⟩) (Nat.le_trans hsz3 hsz) _ _ _ htm
        have hb5 := fun ka na ma => below_lit wr (.cells #[.int .i64 ka, .int .i64 na, .string ma, .slice xa xl xc, .slice ya yl yc] 25)
        have hih := IH.out ts[j] (.slice xa xl xc) (.slice ya yl yc) (wr.alloc (.cells #[.int .i64 (tkOf ts[j]), .int .i64 (tnOf ts[j]), .string (tmOf ts[j]), .slice xa xl xc, .slice ya yl yc] 25)) base p bm most Vj nsj (Nat.le_trans (tnodes_mem (List.getElem_mem hx1)) HTN.out) (haj.out.below (hb5 _ _ _)) (by simp; omega) (okHL_mem HOL.out _ (List.getElem_mem hx1)) (tmP_below (hb5 _ _ _) htm2)
        unfold HoldRet at hih
        have HTK := Lib.hid (holdL_take hx1 hhl.out)
        have HST := Lib.hid (fun s => holdL_stop (most := most) (ts := ts) (ns := ns) (ns' := s) (j := j + 1))
        obtain ⟨⟨r1, ns6⟩, hR⟩ : ∃ R, holdT most ts[j] nsj = R := ⟨_, rfl⟩
        rw [hR] at hih
        rw [hR] at HTK
        dsimp only [tv] at hih
        clear hR htm htm2 hkeep hbk hb5
        generalize tkOf ts[j] = ka at *
        generalize tnOf ts[j] = na at *
        generalize tmOf ts[j] = ma at *
        have HIH := Lib.hid hih
        have HB5 := Lib.hid (below_lit wr (.cells #[.int .i64 ka, .int .i64 na, .string ma, .slice xa xl xc, .slice ya yl yc] 25))
        have HZ5 := Lib.hid (show (wr.alloc (.cells #[.int .i64 ka, .int .i64 na, .string ma, .slice xa xl xc, .slice ya yl yc] 25)).heap.size = wr.heap.size + 1 by simp)
        have q1 : (0 : Int) ≤ (j : Int) := by omega
        have q2 : (j : Int) < (sl : Int) := by omega
        have q3 : (j : Int) < 3 := by omega
        clear hih
        cases r1 with
        | zero =>
          go_wp2_with fail
          refine HIH.out.mono ?_
          rintro e w6 ⟨V6, rfl, ha6, hk6⟩
          have HA6 := Lib.hid ha6
          have HK6 := Lib.hid hk6
          clear ha6 hk6
          simp only [if_true]
          go_wp2_with fail
          go_ret2
          have e9 : holdT most (.mk k n m ls ts) ns = (0, ns6) := by rw [holdT, HST.out ns6 HTK.out]
          unfold HoldRet
          rw [e9]
          exact ⟨V6, rfl, HA6.out, (hkx.out.kp HB3.out (by omega)).trans ((Kp.of_below HB5.out).trans HK6.out)⟩
        | succ r =>
          go_wp2_with fail
          refine HIH.out.mono ?_
          rintro e w6 ⟨V6, rfl, ha6, hk6⟩
          rw [if_neg (Nat.succ_ne_zero _)]
          have hrow6 := (hk6.block Bo (by rw [HZ5.out]; omega) (by omega) (by omega) (fun e => by rcases HVJ.out Bo e with h | h <;> omega)).trans ((HB5.out.block Bo (by omega)).trans hrow.out)
          have HA6 := Lib.hid ha6
          have HK6 := Lib.hid hk6
          have HR6 := Lib.hid hrow6
          obtain ⟨u6, hu6⟩ := krow_cell (j := j) hrow6 (by omega)
          have f6 := frozen0 (p := 4 + j) hrow6
          have hV6 : Hid (V6.ownBlock ≠ some Bo) := fun e => by
            rcases hk6.moved Bo e with h | h
            · rcases HVJ.out Bo h with h | h <;> omega
            · rw [HZ5.out] at h; omega
          clear ha6 hk6 hrow6
          go_wp2_with fail
          go_roundw
          case rel => exact ⟨j + 1, V6, ns6, ids ++ [r + 1], by omega, by go_num, HTK.out, krow_set HR6.out hidl (by omega) (r + 1), HA6.out.set (by omega) (by omega) hV6.out _ _, (hkx.out.trans ((Kp.of_below HB5.out).trans HK6.out)).set _ _⟩
          case measure => simp [intOf]; omega
      · obtain rfl : j = sl := by omega
        have hln : decide ((j : Int) < (j : Int)) = false := by simp
        have htk : ts.take j = ts := List.take_of_length_le (by rw [HLEN.out]; exact Nat.le_refl _)
        rw [htk] at hhl
        have hids := ((holdL_le most ts ns).1 ids (by rw [hhl.out])).2
        rw [hhl.out] at hids
        have hidm : ∀ i ∈ ids, i ≤ 1048576 := fun i hi => by
          have h1 : i ≤ nsj.length := hids i hi
          have h2 := haj.out.le
          have h3 := haj.out.room
          omega
        have hO := HO1.out
        unfold okH1 at hO
        have hnum := number_is wr base p bm most Vj nsj haj.out (keyOf k n m ls ids) ⟨⟨by show -9223372036854775808 ≤ k; omega, by show k < 9223372036854775808; omega⟩, ⟨by show -9223372036854775808 ≤ n; omega, by show n < 9223372036854775808; omega⟩, hO.2.2.2.2.1, (by show (lvB ls).size ≤ _; rw [lvB_size]; omega), getD_le hidm 0, getD_le hidm 1, getD_le hidm 2⟩ (fun _ => ⟨hO.2.2.1, hO.2.2.2.1⟩) (by show n < 9223372036854775807; omega) (by omega)
        obtain ⟨X, hX⟩ : ∃ X, keyOf k n m ls ids = X := ⟨_, rfl⟩
        have hkc : kc X = krow k n m lvs ids := by rw [← hX, ← HLVS.out]; rfl
        rw [hX, hkc] at hnum
        have HNUM := Lib.hid hnum
        have HXX := Lib.hid hX
        obtain ⟨c0, c1, c2, c3, c4, c5, c6⟩ := seven_cells hrow.out
        clear hnum hX hkc hids hidm hO hidl
        go_wp2_with fail
        refine HNUM.out.mono ?_
        rintro e w9 ⟨V9, rfl, ha9, hk9⟩
        generalize hz9 : (if (numT most nsj X).1 = 0 then (24 : Int) else 0) = z9
        have HZ9 := Lib.hid hz9
        clear hz9
        have HA9 := Lib.hid ha9
        have HK9 := Lib.hid hk9
        clear ha9 hk9
        go_wp2_with fail
        go_ret2
        have e9 : holdT most (.mk k n m ls ts) ns = numT most nsj X := by
          rw [holdT, hhl.out]
          simp only
          rw [HXX.out]
        unfold HoldRet
        rw [e9, HZ9.out]
        exact ⟨V9, rfl, HA9.out, (hkx.out.kp HB3.out (by omega)).trans HK9.out⟩
end Arn
end Go.Proofs.YtlijdgamobpndaaDoor
/-
  The contract of an arena's 'Hold': what isn't right has no number; of a right term it is what 'hold' answers.
  Conditions: the arena lies in memory as told by 'ArM', the term in blocks that are not the arena's, its names take at most 2^47 bytes each; name.Right's contract.
-/
namespace Go.Proofs.YtlijdgamobpndaaDoor
open Go.RowKit Go.Maps
open Lvl
open Trm
namespace Arn
theorem shape_ok {RN : ByteArray → Bool} {kd n : Int} {nm : ByteArray} {ls : List Lv} {m : Nat} {K : Int} (h : Trm.shape RN (rightB 4) kd n nm ls m K = true) (hK : 0 ≤ K) (hK2 : K ≤ 1152921504606846975) (hn : nm.size ≤ 140737488355328) (hl : nodesL ls ≤ 100000) : okH1 kd n nm ls m := by
  unfold Trm.shape at h
  rw [Bool.and_eq_true] at h
  obtain ⟨h1, h2⟩ := h
  have hsm : smL ls := by
    have h3 := List.all_eq_true.1 h1
    have : ∀ l : List Lv, (∀ x ∈ l, rightB 4 x = true) → smL l := by
      intro l
      induction l with
      | nil => intro _; rw [smL]; trivial
      | cons a l ih =>
        intro h
        rw [smL]
        refine ⟨?_, ih fun x hx => h x (by simp [hx])⟩
        have := h a (by simp)
        unfold rightB at this
        simp only [Bool.and_eq_true, decide_eq_true_eq] at this
        exact smV_ok 4 (by decide) a (by first | exact this.2 | exact this.1.1 | exact this.2.1 | exact this.2.2)
    exact this ls h3
  unfold okH1
  by_cases k1 : kd = 1
  · simp [k1] at h2
    refine ⟨by omega, by omega, by omega, by omega, hn, hsm, hl, by omega⟩
  · rw [if_neg k1, Bool.and_eq_true] at h2
    have n0 : n = 0 := of_decide_eq_true h2.1
    have h3 := h2.2
    by_cases k2 : kd = 2
    · simp [k2] at h3
      refine ⟨by omega, by omega, by omega, by omega, hn, hsm, hl, by omega⟩
    · rw [if_neg k2] at h3
      by_cases k3 : kd = 3
      · simp [k3] at h3
        refine ⟨by omega, by omega, by omega, by omega, hn, hsm, hl, by omega⟩
      · rw [if_neg k3, Bool.and_eq_true] at h3
        have h4 := h3.2
        by_cases k4 : kd = 4 ∨ kd = 5 ∨ kd = 6
        · rw [if_pos k4] at h4
          have := of_decide_eq_true h4
          exact ⟨by omega, by omega, by omega, by omega, hn, hsm, hl, by omega⟩
        · rw [if_neg k4, Bool.and_eq_true] at h4
          have e1 := of_decide_eq_true h4.1
          have e2 := of_decide_eq_true h4.2
          exact ⟨by omega, by omega, by omega, by omega, hn, hsm, hl, by omega⟩
mutual
theorem okT_H {RN : ByteArray → Bool} : ∀ (t : Tm) (K : Int), okT RN (rightB 4) t K = true → 0 ≤ K → K + tnodes t ≤ 1152921504606846975 → tnodes t ≤ 100000 → nmOk t → okH t
  | .mk kd n nm ls ts, K, h, hK, hK2, hN, hn => by
    rw [okT, Bool.and_eq_true] at h
    rw [tnodes] at hK2 hN
    rw [nmOk] at hn
    rw [okH]
    exact ⟨shape_ok h.1 hK (by omega) hn.1 (by omega), okTL_H kd ts 0 K h.2 hK (by omega) (by omega) hn.2⟩
theorem okTL_H {RN : ByteArray → Bool} (kd : Int) : ∀ (ts : List Tm) (i : Nat) (K : Int), okTL RN (rightB 4) kd ts i K = true → 0 ≤ K → K + 1 + tnodesL ts ≤ 1152921504606846975 → tnodesL ts ≤ 100000 → nmOkL ts → okHL ts
  | [], _, _, _, _, _, _, _ => by rw [okHL]; trivial
  | t :: ts, i, K, h, hK, hK2, hN, hn => by
    rw [okTL, Bool.and_eq_true] at h
    rw [tnodesL] at hK2 hN
    rw [nmOkL] at hn
    rw [okHL]
    refine ⟨okT_H t _ h.1 ?_ ?_ (by omega) hn.1, okTL_H kd ts (i + 1) K h.2 hK (by omega) (by omega) hn.2⟩
    · unfold under; split <;> omega
    · unfold under; split <;> omega
end
theorem right_okH {RN : ByteArray → Bool} {t : Tm} (h : rightT RN 4 t 1125899906842624 = true) (hn : nmOk t) : okH t := by
  obtain ⟨h0, h1, h2⟩ := rightT_ok h
  rw [show min (1125899906842624 : Int) 1125899906842624 = 1125899906842624 by omega] at h2
  exact okT_H t _ h2 h0 (by omega) (by omega) hn
/-- What Hold answers of a term that is right (b), or isn't. -/
def HoldsRet (base p bm most : Nat) (V : Value) (ns : List Nd) (t : Tm) (b : Bool) (w : World) (e : Ending) (w' : World) : Prop :=
  if b = true then HoldRet base p bm most V ns t w e w' else e = .returned (.tuple #[.int .i64 0, .int .i64 10]) ∧ Below w.heap.size w w'
set_option maxRecDepth 100000 in
set_option maxHeartbeats 1000000 in
theorem holds_is (RN : ByteArray → Bool) (t : Tm) (l s : Value) (w : World) (base p bm most : Nat) (V : Value) (ns : List Nd) (ha : ArM w base p bm most V ns) (hbase : base ≤ w.heap.size) (hm : tnodes t ≤ 100000) (hnm : nmOk t) (CN : NameC w RN) (ht : TmP w (fun b => b ≠ p ∧ b ≠ bm ∧ V.ownBlock ≠ some b) t l s) (b : Bool) (hb : rightT RN 4 t 1125899906842624 = b) :
    Calls Tryd.prog 10 #[.pointer (some ⟨p, 0, none⟩), tv t l s] w (HoldsRet base p bm most V ns t b w) := by
  obtain ⟨⟨la, ll, lc, rfl⟩, sa, sl, sc, rfl⟩ := tmP_slices ht
  have HA := Lib.hid ha
  have HT := Lib.hid ht
  have HM := Lib.hid hm
  have HNM := Lib.hid hnm
  have HCN := Lib.hid CN
  have HBB := Lib.hid hb
  obtain ⟨k, hk⟩ : ∃ k, tkOf t = k := ⟨_, rfl⟩
  obtain ⟨n, hn⟩ : ∃ n, tnOf t = n := ⟨_, rfl⟩
  obtain ⟨m, hmm⟩ : ∃ m, tmOf t = m := ⟨_, rfl⟩
  dsimp only [tv]
  rw [hk, hn, hmm]
  have hbx := below_lit w (.cells #[.int .i64 k, .int .i64 n, .string m, .slice la ll lc, .slice sa sl sc] 25)
  have hrx := heap_alloc_new w (.cells #[.int .i64 k, .int .i64 n, .string m, .slice la ll lc, .slice sa sl sc] 25)
  have hzx : (w.alloc (.cells #[.int .i64 k, .int .i64 n, .string m, .slice la ll lc, .slice sa sl sc] 25)).heap.size = w.heap.size + 1 := by simp
  have HV : Hid (TmV (w.alloc (.cells #[.int .i64 k, .int .i64 n, .string m, .slice la ll lc, .slice sa sl sc] 25)) t (.agg #[.int .i64 k, .int .i64 n, .string m, .slice la ll lc, .slice sa sl sc])) := by
    have : TmV (w.alloc (.cells #[.int .i64 k, .int .i64 n, .string m, .slice la ll lc, .slice sa sl sc] 25)) t (.agg #[.int .i64 k, .int .i64 n, .string m, .slice la ll lc, .slice sa sl sc]) := ⟨_, _, by rw [← hk, ← hn, ← hmm], tmP_below hbx (tmP_weak (fun _ _ => trivial) ht)⟩
    exact this
  have HB := Lib.hid hbx
  have HR := Lib.hid hrx
  have HZ := Lib.hid hzx
  have HKN := Lib.hid (And.intro hk (And.intro hn hmm))
  obtain ⟨a0, a1, a2, a3, a4⟩ := five_cells hrx
  clear ha ht hm hnm CN hb hk hn hmm hbx hrx hzx
  go_enter Tryd.func10, Tryd.ntmps10
  go_wp2_with fail
  generalize w.alloc (.cells #[.int .i64 k, .int .i64 n, .string m, .slice la ll lc, .slice sa sl sc] 25) = W at *
  refine (right_is RN t _ _ HV.out HM.out (nm_pre t 0 0 HNM.out) (HCN.out.below HB.out) 4 1125899906842624 b HBB.out).mono ?_
  rintro e w1 ⟨rfl, hb1⟩
  have HC1 := Lib.hid (HB.out.trans (hb1.mono HB.out.size))
  have HR1 := Lib.hid ((hb1.block w.heap.size (by rw [HZ.out]; omega)).trans HR.out)
  clear hb1 a0 a1 a2 a3 a4
  cases b with
  | false =>
    go_wp2_with fail
    go_ret2
    unfold HoldsRet
    rw [if_neg (by decide)]
    exact ⟨rfl, HC1.out⟩
  | true =>
    obtain ⟨a0, a1, a2, a3, a4⟩ := five_cells HR1.out
    have hcall := hold_up (tnodes t) t (.slice la ll lc) (.slice sa sl sc) w1 base p bm most V ns (Nat.le_refl _) (HA.out.below HC1.out) (Nat.le_trans hbase HC1.out.size) (right_okH HBB.out HNM.out) (tmP_below HC1.out HT.out)
    dsimp only [tv] at hcall
    rw [HKN.out.1, HKN.out.2.1, HKN.out.2.2] at hcall
    have HCALL := Lib.hid hcall
    clear hcall
    go_wp2_with fail
    refine HCALL.out.mono ?_
    rintro e w2 ⟨V2, rfl, ha2, hk2⟩
    generalize hz9 : (if (holdT most t ns).1 = 0 then (24 : Int) else 0) = z9
    have HA2 := Lib.hid ha2
    have HK2 := Lib.hid hk2
    have HZ9 := Lib.hid hz9
    clear ha2 hk2 hz9
    go_wp2_with fail
    go_ret2
    unfold HoldsRet HoldRet
    rw [if_pos rfl, HZ9.out]
    exact ⟨V2, rfl, HA2.out, (Kp.of_below HC1.out).trans HK2.out⟩
end Arn
end Go.Proofs.YtlijdgamobpndaaDoor
