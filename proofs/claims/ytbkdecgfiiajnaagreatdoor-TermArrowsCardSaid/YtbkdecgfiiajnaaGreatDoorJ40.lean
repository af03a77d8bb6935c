import Derived.Test.YtbkdecgfiiajnaaGreatDoorJ39
import Derived.Test.YtbkdecgfiiajnaaGreatDoorJ38
/-
  The contract of the reference's Lift: so much is added to the variables that are loose in so many binders.
  Conditions: the term lies in memory as told by 'TmV'; it is right, of at most 100000 nodes.
-/
namespace Go.Proofs.YtbkdecgfiiajnaaGreatDoor
open Go.RowKit
open Lvl
namespace Trm
theorem liTL_get (c kd : Int) : ∀ (ts : List Tm) (i : Nat) (d : Int) (j : Nat) (h : j < ts.length) (h' : j < (liTL c kd ts i d).length), (liTL c kd ts i d)[j] = liT c ts[j] (under kd (i + j) d)
  | a :: ts, i, d, 0, _, _ => by simp [liTL]
  | a :: ts, i, d, j + 1, h, h' => by
    have := liTL_get c kd ts (i + 1) d j (by simpa using h) (by rw [liTL_length]; simpa using h)
    simp only [liTL, List.getElem_cons_succ]
    rw [this, show i + 1 + j = i + (j + 1) by omega]
theorem ok_child {RN : ByteArray → Bool} {RL : Lv → Bool} {kd : Int} : ∀ {ts : List Tm} {i : Nat} {K : Int}, okTL RN RL kd ts i K = true → ∀ (j : Nat) (h : j < ts.length), okT RN RL ts[j] (under kd (i + j) K) = true
  | a :: ts, i, K, h, 0, _ => by
    rw [okTL, Bool.and_eq_true] at h
    exact h.1
  | a :: ts, i, K, h, j + 1, hj => by
    rw [okTL, Bool.and_eq_true] at h
    have := ok_child h.2 j (by simpa using hj)
    rw [show i + 1 + j = i + (j + 1) by omega] at this
    exact this
/-- A right node has no arguments, or no levels; a variable none, and its number is below. -/
theorem ok_node {RN : ByteArray → Bool} {RL : Lv → Bool} {k n : Int} {m : ByteArray} {ls : List Lv} {ts : List Tm} {K : Int} (h : okT RN RL (.mk k n m ls ts) K = true) : (ts = [] ∨ ls = []) ∧ (k = 1 → ts = [] ∧ 0 ≤ n ∧ n < K) := by
  rw [okT, Bool.and_eq_true] at h
  have h1 := h.1
  unfold shape at h1
  rw [Bool.and_eq_true] at h1
  have h2 := h1.2
  by_cases k1 : k = 1
  · rw [if_pos k1] at h2
    simp only [Bool.and_eq_true, decide_eq_true_eq] at h2
    have hts : ts = [] := List.length_eq_zero_iff.1 h2.1.2
    exact ⟨.inl hts, fun _ => ⟨hts, h2.1.1.1.1, h2.1.1.1.2⟩⟩
  · refine ⟨?_, fun e => absurd e k1⟩
    rw [if_neg k1, Bool.and_eq_true] at h2
    have h3 := h2.2
    by_cases k2 : k = 2
    · rw [if_pos k2] at h3
      simp only [Bool.and_eq_true, decide_eq_true_eq] at h3
      exact .inl (List.length_eq_zero_iff.1 h3.1.2)
    · rw [if_neg k2] at h3
      by_cases k3 : k = 3
      · rw [if_pos k3] at h3
        simp only [Bool.and_eq_true, decide_eq_true_eq] at h3
        exact .inl (List.length_eq_zero_iff.1 h3.2)
      · rw [if_neg k3] at h3
        simp only [Bool.and_eq_true, decide_eq_true_eq] at h3
        exact .inr (List.length_eq_zero_iff.1 h3.1.1)
theorem tmP_num {w : World} {P : Nat → Prop} {k n n' : Int} {m : ByteArray} {ls : List Lv} {ts : List Tm} {l s : Value} (h : TmP w P (.mk k n m ls ts) l s) : TmP w P (.mk k n' m ls ts) l s := by
  rw [TmP] at h ⊢
  exact h

theorem alloc_swap (w : World) (O O' : Obj) : (w.alloc O).grownBy (w.alloc O') (some w.heap.size) := by
  have h1 := below_lit w O
  have h2 := below_lit w O'
  have s1 : (w.alloc O).heap.size = w.heap.size + 1 := by simp
  have s2 : (w.alloc O').heap.size = w.heap.size + 1 := by simp
  refine ⟨h2.os.trans h1.os.symm, h2.tape.trans h1.tape.symm, h2.output.trans h1.output.symm, by omega, fun k hk hne => ?_⟩
  have hlt : k < w.heap.size := by
    rcases Nat.lt_or_ge k w.heap.size with h | h
    · exact h
    · exact absurd (show some k = some w.heap.size by rw [show k = w.heap.size by omega]) hne
  exact (h2.block k hlt).trans (h1.block k hlt).symm

set_option maxRecDepth 100000 in
set_option maxHeartbeats 4000000 in
theorem lift_up (RN : ByteArray → Bool) (c : Int) (hc0 : 0 ≤ c) (hc1 : c ≤ 1000) : ∀ (N : Nat) (t : Tm) (v : Value) (deep K : Int) (w : World), tnodes t ≤ N → tnodes t ≤ 100000 → okT RN (rightB 4) t K = true → K + N ≤ 1125899907842624 → 0 ≤ deep → deep + N ≤ 2000000 → TmV w t v →
    Calls Tryz.prog 38 #[v, .int .i64 c, .int .i64 deep] w (TmRet w (liT c t deep)) := by
  intro N
  induction N with
  | zero => intro t v deep K w h _ _ _ _ _ _; have := tnodes_pos t; omega
  | succ N ih =>
  intro t v deep K w hN hM hok hK hd0 hd1 hv
  obtain ⟨i0, hi0, hz0, hz1, hz2⟩ := info_parts infoTm
  have hlv : lvOk t := okC_of t K 0 hok
  obtain ⟨l, s, rfl, ht⟩ := hv
  cases t with
  | mk k n m ls ts =>
  obtain ⟨hno, hvar⟩ := ok_node hok
  rw [okT, Bool.and_eq_true] at hok
  have HTT := Lib.hid ht
  rw [TmP, LvP] at ht
  obtain ⟨⟨LA, ll, lc, rfl, l1, l2, l3, l4, l5⟩, A, len, cap, rfl, h1, h2, h2b, h3, h4⟩ := ht
  have IH := Lib.hid ih
  have HTS := Lib.hid h4
  have HN := Lib.hid h1
  have HOK := Lib.hid hok.2
  have HNO := Lib.hid hno
  have HVAR := Lib.hid hvar
  have HLV := Lib.hid hlv
  have HMM := Lib.hid hM
  have HNN : Hid (tnodesL ts ≤ N ∧ tnodesL ts ≤ 100000) := by
    rw [tnodes] at hN hM
    have : tnodesL ts ≤ N ∧ tnodesL ts ≤ 100000 := ⟨by omega, by omega⟩
    exact this
  clear h4 h1 h3 l5 l1 l4 hN ih hok hno hlv hM hvar
  show Calls Tryz.prog 38 #[.agg #[.int .i64 k, .int .i64 n, .string m, .slice LA ll lc, .slice A len cap], .int .i64 c, .int .i64 deep] w (TmRet w (liT c (.mk k n m ls ts) deep))
  rw [liT]
  obtain ⟨n2, hn2⟩ : ∃ q, (if k = 1 ∧ deep ≤ n then n + c else n) = q := ⟨_, rfl⟩
  rw [hn2]
  have HN2 := Lib.hid hn2
  clear hn2
  go_enter Tryz.func38, Tryz.ntmps38
  go_wp2_with fail
  have z1 : (w.alloc (.cells #[.int .i64 k, .int .i64 n, .string m, .slice LA ll lc, .slice A len cap] 25)).heap.size = w.heap.size + 1 := by simp
  have z2 : ((w.alloc (.cells #[.int .i64 k, .int .i64 n, .string m, .slice LA ll lc, .slice A len cap] 25)).alloc (.cells #[.int .i64 0, .int .i64 0, .string ⟨#[]⟩, .slice none 0 0, .slice none 0 0] 25)).heap.size = w.heap.size + 1 + 1 := by simp
  have r0 : (w.alloc (.cells #[.int .i64 k, .int .i64 n, .string m, .slice LA ll lc, .slice A len cap] 25)).heap[w.heap.size]? = some (Obj.cells #[.int .i64 k, .int .i64 n, .string m, .slice LA ll lc, .slice A len cap] 25 (0, 0)) := by
    have := heap_alloc_new w (.cells #[.int .i64 k, .int .i64 n, .string m, .slice LA ll lc, .slice A len cap] 25)
    exact this
  have r1 : ((w.alloc (.cells #[.int .i64 k, .int .i64 n, .string m, .slice LA ll lc, .slice A len cap] 25)).alloc (.cells #[.int .i64 0, .int .i64 0, .string ⟨#[]⟩, .slice none 0 0, .slice none 0 0] 25)).heap[w.heap.size + 1]? = some (Obj.cells #[.int .i64 0, .int .i64 0, .string ⟨#[]⟩, .slice none 0 0, .slice none 0 0] 25 (0, 0)) := by
    have := heap_alloc_new (w.alloc (.cells #[.int .i64 k, .int .i64 n, .string m, .slice LA ll lc, .slice A len cap] 25)) (.cells #[.int .i64 0, .int .i64 0, .string ⟨#[]⟩, .slice none 0 0, .slice none 0 0] 25)
    rwa [z1] at this
  have HB := Lib.hid ((below_lit w (.cells #[.int .i64 k, .int .i64 n, .string m, .slice LA ll lc, .slice A len cap] 25)).trans ((below_lit (w.alloc (.cells #[.int .i64 k, .int .i64 n, .string m, .slice LA ll lc, .slice A len cap] 25)) (.cells #[.int .i64 0, .int .i64 0, .string ⟨#[]⟩, .slice none 0 0, .slice none 0 0] 25)).mono (below_lit w (.cells #[.int .i64 k, .int .i64 n, .string m, .slice LA ll lc, .slice A len cap] 25)).size))
  have HR0 := Lib.hid ((heap_alloc_old (w.alloc (.cells #[.int .i64 k, .int .i64 n, .string m, .slice LA ll lc, .slice A len cap] 25)) (.cells #[.int .i64 0, .int .i64 0, .string ⟨#[]⟩, .slice none 0 0, .slice none 0 0] 25) (by rw [z1]; omega)).trans (r0))
  have HR1 := Lib.hid (r1)
  clear r0 r1
  generalize ((w.alloc (.cells #[.int .i64 k, .int .i64 n, .string m, .slice LA ll lc, .slice A len cap] 25)).alloc (.cells #[.int .i64 0, .int .i64 0, .string ⟨#[]⟩, .slice none 0 0, .slice none 0 0] 25)) = W at *
  have HZ := Lib.hid z2
  clear z1 z2
  have hcp := copyTerm_up (tnodes (.mk k n m ls ts)) (.mk k n m ls ts) (.agg #[.int .i64 k, .int .i64 n, .string m, .slice LA ll lc, .slice A len cap]) W (Nat.le_refl _) HMM.out HLV.out ⟨_, _, rfl, tmP_below HB.out HTT.out⟩
  refine hcp.mono ?_
  clear hcp
  rintro e w3 ⟨L9, S9, he, ht9, hown, hb3⟩
  obtain ⟨⟨la, l9, lc9, rfl⟩, sa, sl, sc, rfl⟩ := tmP_slices ht9
  obtain rfl : e = Ending.returned (.agg #[.int .i64 k, .int .i64 n, .string m, .slice la l9 lc9, (.slice sa sl sc)]) := he
  have HT9 := Lib.hid ht9
  have HOWN : Hid (OwnT w3 W.heap.size (.slice sa sl sc) ts) := hown
  have hz := HZ.out
  have hs3 := hb3.size
  have HR0' := Lib.hid ((hb3.block w.heap.size (by omega)).trans HR0.out)
  have HR1' := Lib.hid ((hb3.block (w.heap.size + 1) (by omega)).trans HR1.out)
  have hbx := below_lit w3 (.cells #[.int .i64 k, .int .i64 n, .string m, .slice la l9 lc9, (.slice sa sl sc)] 25)
  have HB3 := Lib.hid (HB.out.trans ((hb3.trans (hbx.mono hb3.size)).mono HB.out.size))
  have HX := Lib.hid (heap_alloc_new w3 (.cells #[.int .i64 k, .int .i64 n, .string m, .slice la l9 lc9, (.slice sa sl sc)] 25))
  have HX0 := Lib.hid ((hbx.block w.heap.size (by omega)).trans HR0'.out)
  have HX1 := Lib.hid ((hbx.block (w.heap.size + 1) (by omega)).trans HR1'.out)
  have HBX := Lib.hid hbx
  have hs4 : (w3.alloc (.cells #[.int .i64 k, .int .i64 n, .string m, .slice la l9 lc9, (.slice sa sl sc)] 25)).heap.size = w3.heap.size + 1 := by simp
  obtain ⟨p0, p1, p2, p3, p4⟩ := five_cells HX0.out
  clear ht9 hown hb3 hbx HR0 HR1 HR0' HR1' HB HZ
  by_cases hk1 : k = 1
  · have hts := (HVAR.out hk1).1
    have hn0 := (HVAR.out hk1).2
    by_cases hdn : deep ≤ n
    · have d2 : decide (deep ≤ n) = true := by simp; omega
      have hif : n2 = n + c := by rw [← HN2.out, if_pos ⟨hk1, hdn⟩]
      subst hk1
      have hwn : IntKind.i64.wrap (n + c) = n + c := IntWalk.i64_in _ ⟨by omega, by omega⟩
      have hl0 : len = 0 := by have := HN.out; rw [hts] at this; exact this.symm
      subst hl0
      have q0 := five_cells HX.out
      obtain ⟨o0, o1, o2, o3, o4⟩ := q0
      have of1 := frozen0 (p := 1) HX.out
      go_wp2_with fail
      go_loopw [8] (fun i wr => i = .int .i64 0 ∧ Hid (wr.heap[w3.heap.size]? = some (Obj.cells #[.int .i64 1, .int .i64 (n + c), .string m, .slice la l9 lc9, (.slice sa sl sc)] 25 (0, 0))) ∧ Hid (w3.alloc (.cells #[.int .i64 1, .int .i64 n, .string m, .slice la l9 lc9, (.slice sa sl sc)] 25) |>.grownBy wr (some w3.heap.size))) (fun _ _ => 0)
      case atStart => exact ⟨rfl, heap_alloc_new w3 _, alloc_swap w3 _ _⟩
      case round =>
        obtain ⟨rfl, hrow, hgr⟩ := hrel
        have hsr := grown_size hgr.out
        obtain ⟨p0, p1, p2, p3, p4⟩ := five_cells ((hgr.out.block w.heap.size (by omega) (by simp; omega)).trans HX0.out)
        obtain ⟨o0, o1, o2, o3, o4⟩ := five_cells hrow.out
        have hbw := HB3.out.grown hgr.out HB3.out.size (fun k e => by cases e; omega)
        have HBW := Lib.hid hbw
        have HT4 := Lib.hid (tmP_move (w := w3) (w' := wr) (Q := fun b => w.heap.size + 2 ≤ b) (fun b hlt hp => ⟨by omega, (hgr.out.block b (by omega) (by simp; omega)).trans (HBX.out.block b hlt)⟩) (by omega) _ _ _ HT9.out)
        clear hbw
        have hr1 := (hgr.out.block (w.heap.size + 1) (by omega) (by simp; omega)).trans HX1.out
        obtain ⟨e0, e1, e2, e3, e4⟩ := five_cells hr1
        have g0 := frozen0 (p := 0) hr1
        have g1 := frozen0 (p := 1) hr1
        have g2 := frozen0 (p := 2) hr1
        have g3 := frozen0 (p := 3) hr1
        have g4 := frozen0 (p := 4) hr1
        go_wp2_with fail
        refine bodyPost_ret (results_cell_row rfl _ _ (w.heap.size + 1) 25 _ (0, 0) _ rfl (set5_row hr1) Tryz.underlying25 rfl (by rw [hi0, Option.map_some, hz1]; rfl)) rfl ?_
        rw [hif]
        refine ⟨_, _, rfl, ?_, set5_below HBW.out _ 0 _ _ _ _ _ (by omega)⟩
        rw [hts, liTL]
        have h9 := HT4.out
        rw [hts] at h9
        exact tmP_num (tmP_move (w := wr) (fun b _ hp => ⟨by omega, set5_far' wr (w.heap.size + 1) 0 b _ _ _ _ _ (by omega)⟩) (Nat.le_of_eq (set5_sz wr (w.heap.size + 1) 0 _ _ _ _ _).symm) _ _ _ h9)
    · have d2 : decide (deep ≤ n) = false := by simp; omega
      have hif : n2 = n := by rw [← HN2.out, if_neg (fun h => hdn h.2)]
      subst hk1
      have hl0 : len = 0 := by have := HN.out; rw [hts] at this; exact this.symm
      subst hl0
      have q0 := five_cells HX.out
      obtain ⟨o0, o1, o2, o3, o4⟩ := q0
      have of1 := frozen0 (p := 1) HX.out
      go_wp2_with fail
      go_loopw [8] (fun i wr => i = .int .i64 0 ∧ Hid (wr.heap[w3.heap.size]? = some (Obj.cells #[.int .i64 1, .int .i64 n, .string m, .slice la l9 lc9, (.slice sa sl sc)] 25 (0, 0))) ∧ Hid (w3.alloc (.cells #[.int .i64 1, .int .i64 n, .string m, .slice la l9 lc9, (.slice sa sl sc)] 25) |>.grownBy wr (some w3.heap.size))) (fun _ _ => 0)
      case atStart => exact ⟨rfl, HX.out, grown_of _ (Below.refl _ _)⟩
      case round =>
        obtain ⟨rfl, hrow, hgr⟩ := hrel
        have hsr := grown_size hgr.out
        obtain ⟨p0, p1, p2, p3, p4⟩ := five_cells ((hgr.out.block w.heap.size (by omega) (by simp; omega)).trans HX0.out)
        obtain ⟨o0, o1, o2, o3, o4⟩ := five_cells hrow.out
        have hbw := HB3.out.grown hgr.out HB3.out.size (fun k e => by cases e; omega)
        have HBW := Lib.hid hbw
        have HT4 := Lib.hid (tmP_move (w := w3) (w' := wr) (Q := fun b => w.heap.size + 2 ≤ b) (fun b hlt hp => ⟨by omega, (hgr.out.block b (by omega) (by simp; omega)).trans (HBX.out.block b hlt)⟩) (by omega) _ _ _ HT9.out)
        clear hbw
        have hr1 := (hgr.out.block (w.heap.size + 1) (by omega) (by simp; omega)).trans HX1.out
        obtain ⟨e0, e1, e2, e3, e4⟩ := five_cells hr1
        have g0 := frozen0 (p := 0) hr1
        have g1 := frozen0 (p := 1) hr1
        have g2 := frozen0 (p := 2) hr1
        have g3 := frozen0 (p := 3) hr1
        have g4 := frozen0 (p := 4) hr1
        go_wp2_with fail
        refine bodyPost_ret (results_cell_row rfl _ _ (w.heap.size + 1) 25 _ (0, 0) _ rfl (set5_row hr1) Tryz.underlying25 rfl (by rw [hi0, Option.map_some, hz1]; rfl)) rfl ?_
        rw [hif]
        refine ⟨_, _, rfl, ?_, set5_below HBW.out _ 0 _ _ _ _ _ (by omega)⟩
        rw [hts, liTL]
        have h9 := HT4.out
        rw [hts] at h9
        exact tmP_num (tmP_move (w := wr) (fun b _ hp => ⟨by omega, set5_far' wr (w.heap.size + 1) 0 b _ _ _ _ _ (by omega)⟩) (Nat.le_of_eq (set5_sz wr (w.heap.size + 1) 0 _ _ _ _ _).symm) _ _ _ h9)
  by_cases hts : ts = []
  · have d1 : (k == 1) = false := by simp; exact hk1
    have hif : n2 = n := by rw [← HN2.out, if_neg (fun h => hk1 h.1)]
    have hl0 : len = 0 := by have := HN.out; rw [hts] at this; exact this.symm
    subst hl0
    have q0 := five_cells HX.out
    obtain ⟨o0, o1, o2, o3, o4⟩ := q0
    have of1 := frozen0 (p := 1) HX.out
    go_wp2_with fail
    go_loopw [8] (fun i wr => i = .int .i64 0 ∧ Hid (wr.heap[w3.heap.size]? = some (Obj.cells #[.int .i64 k, .int .i64 n, .string m, .slice la l9 lc9, (.slice sa sl sc)] 25 (0, 0))) ∧ Hid (w3.alloc (.cells #[.int .i64 k, .int .i64 n, .string m, .slice la l9 lc9, (.slice sa sl sc)] 25) |>.grownBy wr (some w3.heap.size))) (fun _ _ => 0)
    case atStart => exact ⟨rfl, HX.out, grown_of _ (Below.refl _ _)⟩
    case round =>
      obtain ⟨rfl, hrow, hgr⟩ := hrel
      have hsr := grown_size hgr.out
      obtain ⟨p0, p1, p2, p3, p4⟩ := five_cells ((hgr.out.block w.heap.size (by omega) (by simp; omega)).trans HX0.out)
      obtain ⟨o0, o1, o2, o3, o4⟩ := five_cells hrow.out
      have hbw := HB3.out.grown hgr.out HB3.out.size (fun k e => by cases e; omega)
      have HBW := Lib.hid hbw
      have HT4 := Lib.hid (tmP_move (w := w3) (w' := wr) (Q := fun b => w.heap.size + 2 ≤ b) (fun b hlt hp => ⟨by omega, (hgr.out.block b (by omega) (by simp; omega)).trans (HBX.out.block b hlt)⟩) (by omega) _ _ _ HT9.out)
      clear hbw
      have hr1 := (hgr.out.block (w.heap.size + 1) (by omega) (by simp; omega)).trans HX1.out
      obtain ⟨e0, e1, e2, e3, e4⟩ := five_cells hr1
      have g0 := frozen0 (p := 0) hr1
      have g1 := frozen0 (p := 1) hr1
      have g2 := frozen0 (p := 2) hr1
      have g3 := frozen0 (p := 3) hr1
      have g4 := frozen0 (p := 4) hr1
      go_wp2_with fail
      refine bodyPost_ret (results_cell_row rfl _ _ (w.heap.size + 1) 25 _ (0, 0) _ rfl (set5_row hr1) Tryz.underlying25 rfl (by rw [hi0, Option.map_some, hz1]; rfl)) rfl ?_
      rw [hif]
      refine ⟨_, _, rfl, ?_, set5_below HBW.out _ 0 _ _ _ _ _ (by omega)⟩
      rw [hts, liTL]
      have h9 := HT4.out
      rw [hts] at h9
      exact tmP_num (tmP_move (w := wr) (fun b _ hp => ⟨by omega, set5_far' wr (w.heap.size + 1) 0 b _ _ _ _ _ (by omega)⟩) (Nat.le_of_eq (set5_sz wr (w.heap.size + 1) 0 _ _ _ _ _).symm) _ _ _ h9)
  have hls : ls = [] := by
    rcases HNO.out with h | h
    · exact absurd h hts
    · exact h
  have d1 : (k == 1) = false := by simp; exact hk1
  have hrow9 : ∃ g cur, sa = some ⟨g, 0, none⟩ ∧ sl = len ∧ len ≤ sc ∧ W.heap.size ≤ g ∧ g < w3.heap.size ∧ w3.heap[g]? = some (Obj.cells cur 25 (0, 0)) ∧ cur.size = sc * 5 := by
    obtain ⟨ss, hl, ho, hkk⟩ := HOWN.out
    rcases ho.2 with ⟨h8, h9⟩ | ⟨g, cp, cur, h8, hbg, hg, hn9, hm9, hs9, ht9⟩
    · exact absurd (List.length_eq_zero_iff.1 h9) hts
    · cases h8
      refine ⟨g, cur, rfl, HN.out, by rw [← HN.out]; exact hn9, hbg, ?_, hg, hs9⟩
      exact (Array.getElem?_eq_some_iff.1 hg).1
  obtain ⟨g, cur, rfl, rfl, hlsc, hg1, hg2, hgr0, hcs⟩ := hrow9
  have HG4 := Lib.hid ((HBX.out.block g hg2).trans hgr0)
  clear hgr0
  go_wp2_with fail
  generalize w3.alloc (.cells #[.int .i64 k, .int .i64 n, .string m, .slice la l9 lc9, (.slice (some ⟨g, 0, none⟩) sl sc)] 25) = W4 at *
  generalize hBo : w3.heap.size = Bo at *
  go_loopw [8] (fun i wr => ∃ (j : Nat) (arr : Array Value), j ≤ sl ∧ i = .int .i64 j ∧ Hid (wr.heap[g]? = some (Obj.cells arr 25 (0, 0))) ∧ arr.size = sc * 5 ∧ Hid (DoneTo (g + 1) wr arr (liTL c k ts 0 deep) j) ∧ Hid (W4.grownBy wr (some g))) (fun i _ => sl - (intOf i).toNat)
  case atStart => exact ⟨0, cur, Nat.zero_le _, rfl, HG4.out, hcs, doneTo_zero _ _ _ _, grown_of _ (Below.refl _ _)⟩
  case round =>
    obtain ⟨j, arr, hj, rfl, harr, hasz, hdone, hgr⟩ := hrel
    have hsr := grown_size hgr.out
    have HBWr := Lib.hid (HB3.out.grown hgr.out HB3.out.size (fun k e => by cases e; omega))
    obtain ⟨p0, p1, p2, p3, p4⟩ := five_cells ((hgr.out.block w.heap.size (by omega) (by simp; omega)).trans HX0.out)
    by_cases hlt : j < sl
    · have hx1 : j < ts.length := by rw [HN.out]; exact hlt
      have hu1 : j < (liTL c k ts 0 deep).length := by rw [liTL_length]; exact hx1
      have hln : decide ((j : Int) < (sl : Int)) = true := by simp; omega
      obtain ⟨bk, o, l7, s7, rfl, hbs, _, hc0, hc1, hc2, hc3, hc4, htm⟩ := tsP_get HTS.out j hx1
      obtain ⟨⟨xa, xl, xc, rfl⟩, ya, yl, yc, rfl⟩ := tmP_slices htm
      have hchild := ok_child HOK.out j hx1
      rw [Nat.zero_add] at hchild
      have hub : under k j K ≤ K + 1 := by unfold under; split <;> omega
      have hud : under k j deep ≤ deep + 1 ∧ 0 ≤ under k j deep := by unfold under; split <;> omega
      have hcall := fun (w' : World) (hw : Below w.heap.size w w') => IH.out ts[j] (tv ts[j] (.slice xa xl xc) (.slice ya yl yc)) (under k j deep) (under k j K) w' (Nat.le_trans (tnodes_mem (List.getElem_mem hx1)) HNN.out.1) (Nat.le_trans (tnodes_mem (List.getElem_mem hx1)) HNN.out.2) hchild (by omega) hud.2 (by omega) ⟨_, _, rfl, tmP_below hw htm⟩
      have hur : liT c ts[j] (under k j deep) = (liTL c k ts 0 deep)[j] := by rw [liTL_get c k ts 0 deep j hx1 hu1, Nat.zero_add]
      rw [hur] at hcall
      have HCALL := Lib.hid hcall
      dsimp only [tv] at HCALL
      obtain ⟨ku, hku⟩ : ∃ q, tkOf (liTL c k ts 0 deep)[j] = q := ⟨_, rfl⟩
      obtain ⟨nu, hnu⟩ : ∃ q, tnOf (liTL c k ts 0 deep)[j] = q := ⟨_, rfl⟩
      obtain ⟨mu, hmu⟩ : ∃ q, tmOf (liTL c k ts 0 deep)[j] = q := ⟨_, rfl⟩
      have HU := Lib.hid (And.intro hku (And.intro hnu hmu))
      have q1 : (0 : Int) ≤ (j : Int) := by omega
      have q2 : (j : Int) < (sl : Int) := by omega
      generalize tkOf ts[j] = ka at *
      generalize tnOf ts[j] = na at *
      generalize tmOf ts[j] = ma at *
      have HE : Hid (∀ W', Below w.heap.size w W' → W'.cell? ⟨bk, o + j * 5, none⟩ = some (.int .i64 ka) ∧ W'.cell? ⟨bk, o + j * 5 + 1, none⟩ = some (.int .i64 na) ∧ W'.cell? ⟨bk, o + j * 5 + 2, none⟩ = some (.string ma) ∧ W'.cell? ⟨bk, o + j * 5 + 3, none⟩ = some (.slice xa xl xc) ∧ W'.cell? ⟨bk, o + j * 5 + 4, none⟩ = some (.slice ya yl yc)) := fun W' h => ⟨(h.cell (p := ⟨bk, _, none⟩) hbs).trans hc0, (h.cell (p := ⟨bk, _, none⟩) hbs).trans hc1, (h.cell (p := ⟨bk, _, none⟩) hbs).trans hc2, (h.cell (p := ⟨bk, _, none⟩) hbs).trans hc3, (h.cell (p := ⟨bk, _, none⟩) hbs).trans hc4⟩
      obtain ⟨bb, hbb⟩ : ∃ b, binds k j = b := ⟨_, rfl⟩
      clear htm hcall hc0 hc1 hc2 hc3 hc4 hku hnu hmu hur hchild hbs
      go_wp2_with fail
      refine (refBinds_is k j wr bb hbb).mono ?_
      rintro e w8 ⟨rfl, hb8⟩
      have HB8 := Lib.hid hb8
      have hs8 := hb8.size
      have HBW8 := Lib.hid (HBWr.out.trans (hb8.mono HBWr.out.size))
      have hgr8 := grown_below hgr.out hb8
      have HA8 := Lib.hid ((hb8.block g (by omega)).trans harr.out)
      have HP8 := Lib.hid ((hb8.block w.heap.size (by omega)).trans ((hgr.out.block w.heap.size (by omega) (by simp; omega)).trans HX0.out))
      have HO8 := Lib.hid ((hb8.block Bo (by omega)).trans ((hgr.out.block Bo (by omega) (by simp; omega)).trans HX.out))
      clear hb8 p0 p1 p2 p3 p4
      have hk8 : Hid (∀ W', Below w8.heap.size w8 W' → W'.cell? ⟨w.heap.size, 4, none⟩ = some (.slice (some ⟨bk, o, none⟩) sl cap) ∧ W'.cell? ⟨Bo, 4, none⟩ = some (.slice (some ⟨g, 0, none⟩) sl sc) ∧ W'.cell? ⟨bk, o + j * 5, none⟩ = some (.int .i64 ka) ∧ W'.cell? ⟨bk, o + j * 5 + 1, none⟩ = some (.int .i64 na) ∧ W'.cell? ⟨bk, o + j * 5 + 2, none⟩ = some (.string ma) ∧ W'.cell? ⟨bk, o + j * 5 + 3, none⟩ = some (.slice xa xl xc) ∧ W'.cell? ⟨bk, o + j * 5 + 4, none⟩ = some (.slice ya yl yc)) := fun W' h => by
        obtain ⟨_, _, _, _, q4⟩ := five_cells ((h.block w.heap.size (by omega)).trans HP8.out)
        obtain ⟨_, _, _, _, o4⟩ := five_cells ((h.block Bo (by omega)).trans HO8.out)
        have he := HE.out W' (HBW8.out.trans (h.mono HBW8.out.size))
        exact ⟨q4, o4, he.1, he.2.1, he.2.2.1, he.2.2.2.1, he.2.2.2.2⟩
      cases bb with
      | false =>
        have hu : under k j deep = deep := by unfold under; rw [hbb]; rfl
        rw [hu] at HCALL hud
        go_wp2_with fail
        refine region_E (S := fun W' => W'.cell? ⟨w.heap.size, 4, none⟩ = some (.slice (some ⟨bk, o, none⟩) sl cap) ∧ W'.cell? ⟨Bo, 4, none⟩ = some (.slice (some ⟨g, 0, none⟩) sl sc) ∧ W'.cell? ⟨bk, o + j * 5, none⟩ = some (.int .i64 ka) ∧ W'.cell? ⟨bk, o + j * 5 + 1, none⟩ = some (.int .i64 na) ∧ W'.cell? ⟨bk, o + j * 5 + 2, none⟩ = some (.string ma) ∧ W'.cell? ⟨bk, o + j * 5 + 3, none⟩ = some (.slice xa xl xc) ∧ W'.cell? ⟨bk, o + j * 5 + 4, none⟩ = some (.slice ya yl yc)) 12 (by kernel_rfl) ?_
        refine (fun (hHeld : (fun W' : World => W'.cell? ⟨w.heap.size, 4, none⟩ = some (.slice (some ⟨bk, o, none⟩) sl cap) ∧ W'.cell? ⟨Bo, 4, none⟩ = some (.slice (some ⟨g, 0, none⟩) sl sc) ∧ W'.cell? ⟨bk, o + j * 5, none⟩ = some (.int .i64 ka) ∧ W'.cell? ⟨bk, o + j * 5 + 1, none⟩ = some (.int .i64 na) ∧ W'.cell? ⟨bk, o + j * 5 + 2, none⟩ = some (.string ma) ∧ W'.cell? ⟨bk, o + j * 5 + 3, none⟩ = some (.slice xa xl xc) ∧ W'.cell? ⟨bk, o + j * 5 + 4, none⟩ = some (.slice ya yl yc)) _) => ?_) (hk8.out _ ((Below.refl _ _).drew))
        refine take_E (i := 0) (v := ?_) 11 [1, 0] rfl (by kernel_rfl) (by kernel_rfl) (by kernel_rfl) (by kernel_rfl) rfl (by decide) (by kernel_rfl) rfl (fun _ _ _ h => h) (by rfl) ?_ hHeld ?_
        rotate_left
        · intro w hSw
          (try dsimp only at hSw)
          go_simp
          try with_reducible rfl
        try simp only [Act.put, List.setIfInBounds_toArray, List.set_cons_zero, List.set_cons_succ]
        refine take_E (i := 1) (v := ?_) 11 [1] rfl (by kernel_rfl) (by kernel_rfl) (by kernel_rfl) (by kernel_rfl) rfl (by decide) (by kernel_rfl) rfl (fun _ _ _ h => h) (by rfl) ?_ hHeld ?_
        rotate_left
        · intro w hSw
          (try dsimp only at hSw)
          go_simp
          try with_reducible rfl
        try simp only [Act.put, List.setIfInBounds_toArray, List.set_cons_zero, List.set_cons_succ]
        refine take_E (i := 2) (v := ?_) 11 [2] rfl (by kernel_rfl) (by kernel_rfl) (by kernel_rfl) (by kernel_rfl) rfl (by decide) (by kernel_rfl) rfl (fun _ _ _ h => h) (by rfl) ?_ hHeld ?_
        rotate_left
        · intro w hSw
          (try dsimp only at hSw)
          go_simp
          try with_reducible rfl
        try simp only [Act.put, List.setIfInBounds_toArray, List.set_cons_zero, List.set_cons_succ]
        refine take_E (i := 3) (v := ?_) 10 [7, 6, 4, 3] rfl (by kernel_rfl) (by kernel_rfl) (by kernel_rfl) (by kernel_rfl) rfl (by decide) (by kernel_rfl) rfl (fun _ _ _ h => h) (by rfl) ?_ hHeld ?_
        rotate_left
        · intro w hSw
          (try dsimp only at hSw)
          go_simp
          try with_reducible rfl
        try simp only [Act.put, List.setIfInBounds_toArray, List.set_cons_zero, List.set_cons_succ]
        refine take_E (i := 4) (v := ?_) 10 [7, 6, 4] rfl (by kernel_rfl) (by kernel_rfl) (by kernel_rfl) (by kernel_rfl) rfl (by decide) (by kernel_rfl) rfl (fun _ _ _ h => h) (by rfl) ?_ hHeld ?_
        rotate_left
        · intro w hSw
          (try dsimp only at hSw)
          go_simp
          try with_reducible rfl
        try simp only [Act.put, List.setIfInBounds_toArray, List.set_cons_zero, List.set_cons_succ]
        refine take_E (i := 5) (v := ?_) 10 [7, 6, 5] rfl (by kernel_rfl) (by kernel_rfl) (by kernel_rfl) (by kernel_rfl) rfl (by decide) (by kernel_rfl) rfl (fun _ _ _ h => h) (by rfl) ?_ hHeld ?_
        rotate_left
        · intro w hSw
          (try dsimp only at hSw)
          go_simp
          try with_reducible rfl
        try simp only [Act.put, List.setIfInBounds_toArray, List.set_cons_zero, List.set_cons_succ]
        refine take_E (i := 6) (v := ?_) 10 [7, 6] rfl (by kernel_rfl) (by kernel_rfl) (by kernel_rfl) (by kernel_rfl) rfl (by decide) (by kernel_rfl) rfl (fun _ _ _ h => h) (by rfl) ?_ hHeld ?_
        rotate_left
        · intro w hSw
          (try dsimp only at hSw)
          go_simp
          try with_reducible rfl
        try simp only [Act.put, List.setIfInBounds_toArray, List.set_cons_zero, List.set_cons_succ]
        refine take_E (i := 7) (v := ?_) 10 [7] rfl (by kernel_rfl) (by kernel_rfl) (by kernel_rfl) (by kernel_rfl) rfl (by decide) (by kernel_rfl) rfl (fun _ _ _ h => h) (by rfl) ?_ hHeld ?_
        rotate_left
        · intro w hSw
          (try dsimp only at hSw)
          go_simp
          try with_reducible rfl
        try simp only [Act.put, List.setIfInBounds_toArray, List.set_cons_zero, List.set_cons_succ]
        refine take_E (i := 8) (v := ?_) 10 [8] rfl (by kernel_rfl) (by kernel_rfl) (by kernel_rfl) (by kernel_rfl) rfl (by decide) (by kernel_rfl) rfl (fun _ _ _ h => h) (by rfl) ?_ hHeld ?_
        rotate_left
        · intro w hSw
          (try dsimp only at hSw)
          go_simp
          try with_reducible rfl
        try simp only [Act.put, List.setIfInBounds_toArray, List.set_cons_zero, List.set_cons_succ]
        refine take_E (i := 9) (v := ?_) 10 [9] rfl (by kernel_rfl) (by kernel_rfl) (by kernel_rfl) (by kernel_rfl) rfl (by decide) (by kernel_rfl) rfl (fun _ _ _ h => h) (by rfl) ?_ hHeld ?_
        rotate_left
        · intro w hSw
          (try dsimp only at hSw)
          go_simp
          try with_reducible rfl
        try simp only [Act.put, List.setIfInBounds_toArray, List.set_cons_zero, List.set_cons_succ]
        refine only_E (i := 10) rfl (by kernel_rfl) (fun K hK => ?_)
        clear hHeld
        go_simp
        go_at_call 38
        refine (HCALL.out _ (HBW8.out.trans ((Below.refl _ _).drew.mono HBW8.out.size))).mono ?_
        rintro e w6 ⟨u9, v9, rfl, ht6, hb6⟩
        obtain ⟨⟨ua, ul, uc, rfl⟩, va, vl, vc, rfl⟩ := tmP_slices ht6
        dsimp only [tv]
        rw [HU.out.1, HU.out.2.1, HU.out.2.2]
        have HT6 := Lib.hid ht6
        have HC6 := Lib.hid ((Below.refl w8.heap.size w8).drew.trans hb6)
        clear ht6 hb6

        try (go_wp2_with fail)
        refine (fun (hHeld : (fun W' : World => W'.cell? ⟨w.heap.size, 4, none⟩ = some (.slice (some ⟨bk, o, none⟩) sl cap) ∧ W'.cell? ⟨Bo, 4, none⟩ = some (.slice (some ⟨g, 0, none⟩) sl sc) ∧ W'.cell? ⟨bk, o + j * 5, none⟩ = some (.int .i64 ka) ∧ W'.cell? ⟨bk, o + j * 5 + 1, none⟩ = some (.int .i64 na) ∧ W'.cell? ⟨bk, o + j * 5 + 2, none⟩ = some (.string ma) ∧ W'.cell? ⟨bk, o + j * 5 + 3, none⟩ = some (.slice xa xl xc) ∧ W'.cell? ⟨bk, o + j * 5 + 4, none⟩ = some (.slice ya yl yc)) _) => hK.out _ _ (fun _ => hHeld) ?_) (hk8.out w6 HC6.out)
        clear hK K
        try simp only [Act.put, List.setIfInBounds_toArray, List.set_cons_zero, List.set_cons_succ]
        refine only_E (i := 11) rfl (by kernel_rfl) (fun K hK => ?_)
        clear hHeld
        go_simp

        try (go_wp2_with fail)
        refine (fun (hHeld : (fun W' : World => W'.cell? ⟨w.heap.size, 4, none⟩ = some (.slice (some ⟨bk, o, none⟩) sl cap) ∧ W'.cell? ⟨Bo, 4, none⟩ = some (.slice (some ⟨g, 0, none⟩) sl sc) ∧ W'.cell? ⟨bk, o + j * 5, none⟩ = some (.int .i64 ka) ∧ W'.cell? ⟨bk, o + j * 5 + 1, none⟩ = some (.int .i64 na) ∧ W'.cell? ⟨bk, o + j * 5 + 2, none⟩ = some (.string ma) ∧ W'.cell? ⟨bk, o + j * 5 + 3, none⟩ = some (.slice xa xl xc) ∧ W'.cell? ⟨bk, o + j * 5 + 4, none⟩ = some (.slice ya yl yc)) _) => hK.out _ _ (fun _ => hHeld) ?_) (hk8.out w6 HC6.out)
        clear hK K
        try simp only [Act.put, List.setIfInBounds_toArray, List.set_cons_zero, List.set_cons_succ]
        refine only_E (i := 12) rfl (by kernel_rfl) (fun K hK => ?_)
        clear hHeld
        go_simp
        have hA6 := (HC6.out.block g (by omega)).trans HA8.out
        have j5 : j * 5 + 4 < arr.size := by omega
        obtain ⟨r0, r0f⟩ := cell_of_arr hA6 (p := j * 5) (by omega)
        obtain ⟨r1, r1f⟩ := cell_of_arr hA6 (p := j * 5 + 1) (by omega)
        obtain ⟨r2, r2f⟩ := cell_of_arr hA6 (p := j * 5 + 2) (by omega)
        obtain ⟨r3, r3f⟩ := cell_of_arr hA6 (p := j * 5 + 3) (by omega)
        obtain ⟨r4, r4f⟩ := cell_of_arr hA6 (p := j * 5 + 4) (by omega)
        go_simp

        have h86 := HC6.out.size
        have HGR := Lib.hid (set5_grown (q := j * 5) (x0 := .int .i64 ku) (x1 := .int .i64 nu) (x2 := .string mu) (x3 := .slice ua ul uc) (x4 := .slice va vl vc) (grown_below hgr8 HC6.out))
        have HDN := Lib.hid (doneTo_step (b := g) hdone.out hu1 (HB8.out.trans (HC6.out.mono HB8.out.size)) (by omega) HU.out.1 HU.out.2.1 HU.out.2.2 j5 (tmP_weak (fun q (hq : w8.heap.size ≤ q) => by omega) HT6.out))
        have HAR := Lib.hid (set5_row' (q := j * 5) (x0 := .int .i64 ku) (x1 := .int .i64 nu) (x2 := .string mu) (x3 := .slice ua ul uc) (x4 := .slice va vl vc) hA6)
        have HAZ := Lib.hid (set5_size arr (j * 5) (.int .i64 ku) (.int .i64 nu) (.string mu) (.slice ua ul uc) (.slice va vl vc))
        refine hK.out _ _ (fun h => by cases h) ?_
        clear hK K r0 r1 r2 r3 r4 r0f r1f r2f r3f r4f hA6
        try simp only [Act.put, List.setIfInBounds_toArray, List.set_cons_zero, List.set_cons_succ]
        refine done_E (by kernel_rfl) ?_ _
        generalize ((((w6.setCell ⟨g, j * 5, none⟩ (.int .i64 ku)).setCell ⟨g, j * 5 + 1, none⟩ (.int .i64 nu)).setCell ⟨g, j * 5 + 2, none⟩ (.string mu)).setCell ⟨g, j * 5 + 3, none⟩ (.slice ua ul uc)).setCell ⟨g, j * 5 + 4, none⟩ (.slice va vl vc) = w9 at *
        go_wp2_with fail
        go_roundw
        case rel => exact ⟨j + 1, _, by omega, by go_num, HAR.out, HAZ.out.trans hasz, HDN.out, HGR.out⟩
        case measure => simp [intOf]; omega
      | true =>
        have hu : under k j deep = (deep + 1) := by unfold under; rw [hbb]; rfl
        rw [hu] at HCALL hud
        go_wp2_with fail
        refine region_E (S := fun W' => W'.cell? ⟨w.heap.size, 4, none⟩ = some (.slice (some ⟨bk, o, none⟩) sl cap) ∧ W'.cell? ⟨Bo, 4, none⟩ = some (.slice (some ⟨g, 0, none⟩) sl sc) ∧ W'.cell? ⟨bk, o + j * 5, none⟩ = some (.int .i64 ka) ∧ W'.cell? ⟨bk, o + j * 5 + 1, none⟩ = some (.int .i64 na) ∧ W'.cell? ⟨bk, o + j * 5 + 2, none⟩ = some (.string ma) ∧ W'.cell? ⟨bk, o + j * 5 + 3, none⟩ = some (.slice xa xl xc) ∧ W'.cell? ⟨bk, o + j * 5 + 4, none⟩ = some (.slice ya yl yc)) 12 (by kernel_rfl) ?_
        refine (fun (hHeld : (fun W' : World => W'.cell? ⟨w.heap.size, 4, none⟩ = some (.slice (some ⟨bk, o, none⟩) sl cap) ∧ W'.cell? ⟨Bo, 4, none⟩ = some (.slice (some ⟨g, 0, none⟩) sl sc) ∧ W'.cell? ⟨bk, o + j * 5, none⟩ = some (.int .i64 ka) ∧ W'.cell? ⟨bk, o + j * 5 + 1, none⟩ = some (.int .i64 na) ∧ W'.cell? ⟨bk, o + j * 5 + 2, none⟩ = some (.string ma) ∧ W'.cell? ⟨bk, o + j * 5 + 3, none⟩ = some (.slice xa xl xc) ∧ W'.cell? ⟨bk, o + j * 5 + 4, none⟩ = some (.slice ya yl yc)) _) => ?_) (hk8.out _ ((Below.refl _ _).drew))
        refine take_E (i := 0) (v := ?_) 11 [1, 0] rfl (by kernel_rfl) (by kernel_rfl) (by kernel_rfl) (by kernel_rfl) rfl (by decide) (by kernel_rfl) rfl (fun _ _ _ h => h) (by rfl) ?_ hHeld ?_
        rotate_left
        · intro w hSw
          (try dsimp only at hSw)
          go_simp
          try with_reducible rfl
        try simp only [Act.put, List.setIfInBounds_toArray, List.set_cons_zero, List.set_cons_succ]
        refine take_E (i := 1) (v := ?_) 11 [1] rfl (by kernel_rfl) (by kernel_rfl) (by kernel_rfl) (by kernel_rfl) rfl (by decide) (by kernel_rfl) rfl (fun _ _ _ h => h) (by rfl) ?_ hHeld ?_
        rotate_left
        · intro w hSw
          (try dsimp only at hSw)
          go_simp
          try with_reducible rfl
        try simp only [Act.put, List.setIfInBounds_toArray, List.set_cons_zero, List.set_cons_succ]
        refine take_E (i := 2) (v := ?_) 11 [2] rfl (by kernel_rfl) (by kernel_rfl) (by kernel_rfl) (by kernel_rfl) rfl (by decide) (by kernel_rfl) rfl (fun _ _ _ h => h) (by rfl) ?_ hHeld ?_
        rotate_left
        · intro w hSw
          (try dsimp only at hSw)
          go_simp
          try with_reducible rfl
        try simp only [Act.put, List.setIfInBounds_toArray, List.set_cons_zero, List.set_cons_succ]
        refine take_E (i := 3) (v := ?_) 10 [7, 6, 4, 3] rfl (by kernel_rfl) (by kernel_rfl) (by kernel_rfl) (by kernel_rfl) rfl (by decide) (by kernel_rfl) rfl (fun _ _ _ h => h) (by rfl) ?_ hHeld ?_
        rotate_left
        · intro w hSw
          (try dsimp only at hSw)
          go_simp
          try with_reducible rfl
        try simp only [Act.put, List.setIfInBounds_toArray, List.set_cons_zero, List.set_cons_succ]
        refine take_E (i := 4) (v := ?_) 10 [7, 6, 4] rfl (by kernel_rfl) (by kernel_rfl) (by kernel_rfl) (by kernel_rfl) rfl (by decide) (by kernel_rfl) rfl (fun _ _ _ h => h) (by rfl) ?_ hHeld ?_
        rotate_left
        · intro w hSw
          (try dsimp only at hSw)
          go_simp
          try with_reducible rfl
        try simp only [Act.put, List.setIfInBounds_toArray, List.set_cons_zero, List.set_cons_succ]
        refine take_E (i := 5) (v := ?_) 10 [7, 6, 5] rfl (by kernel_rfl) (by kernel_rfl) (by kernel_rfl) (by kernel_rfl) rfl (by decide) (by kernel_rfl) rfl (fun _ _ _ h => h) (by rfl) ?_ hHeld ?_
        rotate_left
        · intro w hSw
          (try dsimp only at hSw)
          go_simp
          try with_reducible rfl
        try simp only [Act.put, List.setIfInBounds_toArray, List.set_cons_zero, List.set_cons_succ]
        refine take_E (i := 6) (v := ?_) 10 [7, 6] rfl (by kernel_rfl) (by kernel_rfl) (by kernel_rfl) (by kernel_rfl) rfl (by decide) (by kernel_rfl) rfl (fun _ _ _ h => h) (by rfl) ?_ hHeld ?_
        rotate_left
        · intro w hSw
          (try dsimp only at hSw)
          go_simp
          try with_reducible rfl
        try simp only [Act.put, List.setIfInBounds_toArray, List.set_cons_zero, List.set_cons_succ]
        refine take_E (i := 7) (v := ?_) 10 [7] rfl (by kernel_rfl) (by kernel_rfl) (by kernel_rfl) (by kernel_rfl) rfl (by decide) (by kernel_rfl) rfl (fun _ _ _ h => h) (by rfl) ?_ hHeld ?_
        rotate_left
        · intro w hSw
          (try dsimp only at hSw)
          go_simp
          try with_reducible rfl
        try simp only [Act.put, List.setIfInBounds_toArray, List.set_cons_zero, List.set_cons_succ]
        refine take_E (i := 8) (v := ?_) 10 [8] rfl (by kernel_rfl) (by kernel_rfl) (by kernel_rfl) (by kernel_rfl) rfl (by decide) (by kernel_rfl) rfl (fun _ _ _ h => h) (by rfl) ?_ hHeld ?_
        rotate_left
        · intro w hSw
          (try dsimp only at hSw)
          go_simp
          try with_reducible rfl
        try simp only [Act.put, List.setIfInBounds_toArray, List.set_cons_zero, List.set_cons_succ]
        refine take_E (i := 9) (v := ?_) 10 [9] rfl (by kernel_rfl) (by kernel_rfl) (by kernel_rfl) (by kernel_rfl) rfl (by decide) (by kernel_rfl) rfl (fun _ _ _ h => h) (by rfl) ?_ hHeld ?_
        rotate_left
        · intro w hSw
          (try dsimp only at hSw)
          go_simp
          try with_reducible rfl
        try simp only [Act.put, List.setIfInBounds_toArray, List.set_cons_zero, List.set_cons_succ]
        refine only_E (i := 10) rfl (by kernel_rfl) (fun K hK => ?_)
        clear hHeld
        go_simp
        go_at_call 38
        refine (HCALL.out _ (HBW8.out.trans ((Below.refl _ _).drew.mono HBW8.out.size))).mono ?_
        rintro e w6 ⟨u9, v9, rfl, ht6, hb6⟩
        obtain ⟨⟨ua, ul, uc, rfl⟩, va, vl, vc, rfl⟩ := tmP_slices ht6
        dsimp only [tv]
        rw [HU.out.1, HU.out.2.1, HU.out.2.2]
        have HT6 := Lib.hid ht6
        have HC6 := Lib.hid ((Below.refl w8.heap.size w8).drew.trans hb6)
        clear ht6 hb6

        try (go_wp2_with fail)
        refine (fun (hHeld : (fun W' : World => W'.cell? ⟨w.heap.size, 4, none⟩ = some (.slice (some ⟨bk, o, none⟩) sl cap) ∧ W'.cell? ⟨Bo, 4, none⟩ = some (.slice (some ⟨g, 0, none⟩) sl sc) ∧ W'.cell? ⟨bk, o + j * 5, none⟩ = some (.int .i64 ka) ∧ W'.cell? ⟨bk, o + j * 5 + 1, none⟩ = some (.int .i64 na) ∧ W'.cell? ⟨bk, o + j * 5 + 2, none⟩ = some (.string ma) ∧ W'.cell? ⟨bk, o + j * 5 + 3, none⟩ = some (.slice xa xl xc) ∧ W'.cell? ⟨bk, o + j * 5 + 4, none⟩ = some (.slice ya yl yc)) _) => hK.out _ _ (fun _ => hHeld) ?_) (hk8.out w6 HC6.out)
        clear hK K
        try simp only [Act.put, List.setIfInBounds_toArray, List.set_cons_zero, List.set_cons_succ]
        refine only_E (i := 11) rfl (by kernel_rfl) (fun K hK => ?_)
        clear hHeld
        go_simp

        try (go_wp2_with fail)
        refine (fun (hHeld : (fun W' : World => W'.cell? ⟨w.heap.size, 4, none⟩ = some (.slice (some ⟨bk, o, none⟩) sl cap) ∧ W'.cell? ⟨Bo, 4, none⟩ = some (.slice (some ⟨g, 0, none⟩) sl sc) ∧ W'.cell? ⟨bk, o + j * 5, none⟩ = some (.int .i64 ka) ∧ W'.cell? ⟨bk, o + j * 5 + 1, none⟩ = some (.int .i64 na) ∧ W'.cell? ⟨bk, o + j * 5 + 2, none⟩ = some (.string ma) ∧ W'.cell? ⟨bk, o + j * 5 + 3, none⟩ = some (.slice xa xl xc) ∧ W'.cell? ⟨bk, o + j * 5 + 4, none⟩ = some (.slice ya yl yc)) _) => hK.out _ _ (fun _ => hHeld) ?_) (hk8.out w6 HC6.out)
        clear hK K
        try simp only [Act.put, List.setIfInBounds_toArray, List.set_cons_zero, List.set_cons_succ]
        refine only_E (i := 12) rfl (by kernel_rfl) (fun K hK => ?_)
        clear hHeld
        go_simp
        have hA6 := (HC6.out.block g (by omega)).trans HA8.out
        have j5 : j * 5 + 4 < arr.size := by omega
        obtain ⟨r0, r0f⟩ := cell_of_arr hA6 (p := j * 5) (by omega)
        obtain ⟨r1, r1f⟩ := cell_of_arr hA6 (p := j * 5 + 1) (by omega)
        obtain ⟨r2, r2f⟩ := cell_of_arr hA6 (p := j * 5 + 2) (by omega)
        obtain ⟨r3, r3f⟩ := cell_of_arr hA6 (p := j * 5 + 3) (by omega)
        obtain ⟨r4, r4f⟩ := cell_of_arr hA6 (p := j * 5 + 4) (by omega)
        go_simp

        have h86 := HC6.out.size
        have HGR := Lib.hid (set5_grown (q := j * 5) (x0 := .int .i64 ku) (x1 := .int .i64 nu) (x2 := .string mu) (x3 := .slice ua ul uc) (x4 := .slice va vl vc) (grown_below hgr8 HC6.out))
        have HDN := Lib.hid (doneTo_step (b := g) hdone.out hu1 (HB8.out.trans (HC6.out.mono HB8.out.size)) (by omega) HU.out.1 HU.out.2.1 HU.out.2.2 j5 (tmP_weak (fun q (hq : w8.heap.size ≤ q) => by omega) HT6.out))
        have HAR := Lib.hid (set5_row' (q := j * 5) (x0 := .int .i64 ku) (x1 := .int .i64 nu) (x2 := .string mu) (x3 := .slice ua ul uc) (x4 := .slice va vl vc) hA6)
        have HAZ := Lib.hid (set5_size arr (j * 5) (.int .i64 ku) (.int .i64 nu) (.string mu) (.slice ua ul uc) (.slice va vl vc))
        refine hK.out _ _ (fun h => by cases h) ?_
        clear hK K r0 r1 r2 r3 r4 r0f r1f r2f r3f r4f hA6
        try simp only [Act.put, List.setIfInBounds_toArray, List.set_cons_zero, List.set_cons_succ]
        refine done_E (by kernel_rfl) ?_ _
        generalize ((((w6.setCell ⟨g, j * 5, none⟩ (.int .i64 ku)).setCell ⟨g, j * 5 + 1, none⟩ (.int .i64 nu)).setCell ⟨g, j * 5 + 2, none⟩ (.string mu)).setCell ⟨g, j * 5 + 3, none⟩ (.slice ua ul uc)).setCell ⟨g, j * 5 + 4, none⟩ (.slice va vl vc) = w9 at *
        go_wp2_with fail
        go_roundw
        case rel => exact ⟨j + 1, _, by omega, by go_num, HAR.out, HAZ.out.trans hasz, HDN.out, HGR.out⟩
        case measure => simp [intOf]; omega
    · obtain rfl : j = sl := by omega
      have hln : decide ((j : Int) < (j : Int)) = false := by simp
      obtain ⟨o0, o1, o2, o3, o4⟩ := five_cells ((hgr.out.block Bo (by omega) (by simp; omega)).trans HX.out)
      have hr1 := (hgr.out.block (w.heap.size + 1) (by omega) (by simp; omega)).trans HX1.out
      obtain ⟨e0, e1, e2, e3, e4⟩ := five_cells hr1
      have g0 := frozen0 (p := 0) hr1
      have g1 := frozen0 (p := 1) hr1
      have g2 := frozen0 (p := 2) hr1
      have g3 := frozen0 (p := 3) hr1
      have g4 := frozen0 (p := 4) hr1
      go_wp2_with fail
      refine bodyPost_ret (results_cell_row rfl _ _ (w.heap.size + 1) 25 _ (0, 0) _ rfl (set5_row hr1) Tryz.underlying25 rfl (by rw [hi0, Option.map_some, hz1]; rfl)) rfl ?_
      have hif : n2 = n := by rw [← HN2.out, if_neg (fun h => hk1 h.1)]
      rw [hif]
      refine ⟨_, _, rfl, ?_, set5_below HBWr.out _ 0 _ _ _ _ _ (by omega)⟩
      have hdn := hdone.out
      have hll : (liTL c k ts 0 deep).length = j := by rw [liTL_length]; exact HN.out
      rw [← hll] at hdn
      have hq := doneTo_tsP (B := w.heap.size + 2) hdn harr.out (by omega) (by omega)
      have h9 := HT9.out
      rw [TmP, LvP] at h9
      obtain ⟨⟨LA7, ll7, lc7, e7, m1, m2, m3, m4, _⟩, _⟩ := h9
      have hfin : TmP wr (fun b => w.heap.size + 2 ≤ b) (.mk k n m ls (liTL c k ts 0 deep)) (.slice la l9 lc9) (.slice (some ⟨g, 0, none⟩) j sc) := by
        rw [TmP, LvP]
        exact ⟨⟨LA7, ll7, lc7, e7, m1, m2, m3, m4, by rw [hls, LsP]; trivial⟩, _, _, _, rfl, hll, hlsc, h2b, (fun e => by cases e), hq⟩
      exact tmP_move (w := wr) (fun b _ hp => ⟨by omega, set5_far' wr (w.heap.size + 1) 0 b _ _ _ _ _ (by omega)⟩) (Nat.le_of_eq (set5_sz wr (w.heap.size + 1) 0 _ _ _ _ _).symm) _ _ _ hfin
end Trm
end Go.Proofs.YtbkdecgfiiajnaaGreatDoor
