/-
  The contract of the statements' helper CopyLevel: the same level, in new memory.
  Conditions: the level lies in memory as told by 'LvV'; it has at most 1000 nodes.
-/
import Derived.Test.YteghldgopidhhaaLvRound
import Derived.Deep.RegionLaw
namespace Go.Proofs.Yteghldgopidhhaa
open Go.RowKit
open Lvl

/-- A level is answered that lies in new memory. -/
def LvRet (w : World) (t : Lv) (e : Ending) (w' : World) : Prop :=
  ∃ s, e = .returned (.agg #[.int .i64 (kindOf t), .int .i64 (numOf t), s]) ∧ LvP w' (fun b => w.heap.size ≤ b) t s ∧ Below w.heap.size w w'
theorem infoLv : (Try.prog.info? 24).map (fun i => (i.zero, i.size, i.bytes)) = some (some (.agg #[.int .i64 0, .int .i64 0, .slice none 0 0]), 3, 40) := by kernel_rfl

set_option maxRecDepth 100000 in
set_option maxHeartbeats 4000000 in
theorem copyLevel_up : ∀ (N : Nat) (t : Lv) (v : Value) (w : World), nodes t ≤ N → nodes t ≤ 1000 → LvV w t v →
    Calls Try.prog 10 #[v] w (LvRet w t) := by
  intro N
  induction N with
  | zero => intro t v w h _ _; have := nodes_pos t; omega
  | succ N ih =>
  intro t v w hN hM hv
  obtain ⟨i0, hi0, hz0, hz1, hz2⟩ := info_parts infoLv
  obtain ⟨s, rfl, hs⟩ := hv
  cases t with
  | mk k n ts =>
  rw [LvS] at hs
  obtain ⟨A, len, cap, rfl, h1, h2, h2b, h3, h4⟩ := hs
  have IH := Lib.hid ih
  have HS := Lib.hid h4
  have HN := Lib.hid h1
  have HNN : Hid (nodesL ts ≤ N ∧ nodesL ts ≤ 1000) := by
    rw [nodes] at hN hM
    have : nodesL ts ≤ N ∧ nodesL ts ≤ 1000 := ⟨by omega, by omega⟩
    exact this
  clear h4 h1 h3 hN ih hM
  show Calls Try.prog 10 #[.agg #[.int .i64 k, .int .i64 n, .slice A len cap]] w (LvRet w (.mk k n ts))
  go_enter Try.func10, Try.ntmps10
  go_wp2_with fail
  have H0 := Lib.hid (below_lit w (.cells #[.int .i64 k, .int .i64 n, .slice A len cap] 24))
  obtain ⟨_, _, a2⟩ := box_cells w (.int .i64 k) (.int .i64 n) (.slice A len cap) 24
  have z0 : (w.alloc (.cells #[.int .i64 k, .int .i64 n, .slice A len cap] 24)).heap.size = w.heap.size + 1 := by simp
  generalize w.alloc (.cells #[.int .i64 k, .int .i64 n, .slice A len cap] 24) = W0 at *
  have H1 := Lib.hid (below_lit W0 (.cells #[.int .i64 0, .int .i64 0, .slice none 0 0] 24))
  have z1 : (W0.alloc (.cells #[.int .i64 0, .int .i64 0, .slice none 0 0] 24)).heap.size = w.heap.size + 1 + 1 := by simp [z0]
  have hrow1 := heap_alloc_new W0 (.cells #[.int .i64 0, .int .i64 0, .slice none 0 0] 24)
  rw [z0] at hrow1
  generalize W0.alloc (.cells #[.int .i64 0, .int .i64 0, .slice none 0 0] 24) = W1 at *
  have H2 := Lib.hid (below_lit W1 (.cells #[.int .i64 k, .int .i64 n, .slice none 0 0] 24))
  have hrow := heap_alloc_new W1 (.cells #[.int .i64 k, .int .i64 n, .slice none 0 0] 24)
  have z2 : (W1.alloc (.cells #[.int .i64 k, .int .i64 n, .slice none 0 0] 24)).heap.size = w.heap.size + 1 + 1 + 1 := by simp [z1]
  rw [z1] at hrow
  generalize W1.alloc (.cells #[.int .i64 k, .int .i64 n, .slice none 0 0] 24) = W at *
  have HB := Lib.hid (H0.out.trans ((H1.out.trans (H2.out.mono H1.out.size)).mono H0.out.size))
  have hbox : W.cell? ⟨w.heap.size, 2, none⟩ = some (.slice A len cap) :=
    (H2.out.cell (p := ⟨w.heap.size, 2, none⟩) (by show w.heap.size < W1.heap.size; omega)).trans ((H1.out.cell (p := ⟨w.heap.size, 2, none⟩) (by show w.heap.size < W0.heap.size; omega)).trans a2)
  have HBX := Lib.hid hbox
  have HROW := Lib.hid hrow
  have HROW1 := Lib.hid ((H2.out.block (w.heap.size + 1) (by omega)).trans hrow1)
  have HZ := Lib.hid z2
  clear a2 z0 z1 hrow hrow1 hbox H0 H1 H2 z2
  go_loopw [4] (fun i wr => ∃ (j : Nat) (V : Value), j ≤ len ∧ i = .int .i64 j ∧ Hid (wr.heap[w.heap.size + 1 + 1]? = some (.cells #[.int .i64 k, .int .i64 n, V] 24)) ∧ OwnL wr (w.heap.size + 1 + 1 + 1) V (ts.take j) ∧ Below (w.heap.size + 1 + 1) W wr) (fun i _ => len - (intOf i).toNat)
  case atStart => exact ⟨0, .slice none 0 0, Nat.zero_le _, rfl, HROW.out, ownL_nil _ _, Below.refl _ _⟩
  case round =>
    obtain ⟨j, V, hj, rfl, hrow, hown, hbw⟩ := hrel
    have HOWN := Lib.hid hown
    have HBW := Lib.hid hbw
    have hbox := (hbw.cell (p := ⟨w.heap.size, 2, none⟩) (by show w.heap.size < w.heap.size + 1 + 1; omega)).trans HBX.out
    have HB2 := Lib.hid (HB.out.trans (hbw.mono (by omega)))
    have HSW := Lib.hid (lsV_below HB2.out _ _ _ HS.out)
    have hszr : w.heap.size + 1 + 1 + 1 ≤ wr.heap.size := by rw [← HZ.out]; exact hbw.size
    have d2 : wr.cell? ⟨w.heap.size + 1 + 1, 2, none⟩ = some V := cell_of_row _ _ 2 #[.int .i64 k, .int .i64 n, V] 24 (0, 0) hrow.out
    clear hown hbw
    by_cases hlt : j < len
    · have hx1 : j < ts.length := by rw [HN.out]; exact hlt
      have hln : decide ((j : Int) < (len : Int)) = true := by simp; omega
      obtain ⟨b, o, s, rfl, hbs, hc0, hc1, hc2, hls⟩ := lsV_get HSW.out j hx1
      have HLS : Hid (LvV wr ts[j] (.agg #[.int .i64 (kindOf ts[j]), .int .i64 (numOf ts[j]), s])) := ⟨s, rfl, hls⟩
      have HTN : Hid (nodes ts[j] ≤ N ∧ nodes ts[j] ≤ 1000) := ⟨Nat.le_trans (nodes_mem (List.getElem_mem hx1)) HNN.out.1, Nat.le_trans (nodes_mem (List.getElem_mem hx1)) HNN.out.2⟩
      have HTK := Lib.hid (show ts.take (j + 1) = ts.take j ++ [ts[j]] by rw [List.take_add_one, List.getElem?_eq_getElem hx1]; rfl)
      have q1 : (0 : Int) ≤ (j : Int) := by omega
      have q2 : (j : Int) < (len : Int) := by omega
      generalize hki : kindOf ts[j] = ki at *
      generalize hnu : numOf ts[j] = nu at *
      generalize ts[j] = tj at *
      have HKI := Lib.hid hki
      have HNU := Lib.hid hnu
      clear hls hki hnu
      have hk : Hid (∀ W', Below wr.heap.size wr W' → W'.cell? ⟨w.heap.size, 2, none⟩ = some (.slice (some ⟨b, o, none⟩) len cap) ∧ W'.cell? ⟨b, o + j * 3, none⟩ = some (.int .i64 ki) ∧ W'.cell? ⟨b, o + j * 3 + 1, none⟩ = some (.int .i64 nu) ∧ W'.cell? ⟨b, o + j * 3 + 2, none⟩ = some s ∧ W'.cell? ⟨w.heap.size + 1 + 1, 2, none⟩ = some V) := fun W' hb =>
        ⟨(hb.cell (p := ⟨w.heap.size, 2, none⟩) (by show w.heap.size < wr.heap.size; omega)).trans hbox, (hb.cell (p := ⟨b, _, none⟩) hbs).trans hc0, (hb.cell (p := ⟨b, _, none⟩) hbs).trans hc1, (hb.cell (p := ⟨b, _, none⟩) hbs).trans hc2, (hb.cell (p := ⟨w.heap.size + 1 + 1, 2, none⟩) (by show w.heap.size + 1 + 1 < wr.heap.size; omega)).trans d2⟩
      obtain ⟨ss, hsl, hso, hsk⟩ := HOWN.out
      have hjl : (ts.take j).length = j := by rw [List.length_take]; omega
      rw [hjl] at hso
      have HO := Lib.hid hso
      have HSL := Lib.hid hsl
      have HSK := Lib.hid hsk
      have hj1000 : j + 1 ≤ 1001 := by
        have h5 := len_nodes ts
        have h6 := HNN.out.2
        omega
      have hbo1 : j + 1 ≤ maxLen := by unfold maxLen; omega
      have hbo2 : (j + 1) * 40 ≤ 140737488355328 := by omega
      have hVne : some (w.heap.size + 1 + 1) ≠ V.ownBlock := fun e => by
        have := own_block hso (w.heap.size + 1 + 1) e.symm
        omega
      have hltB3 : w.heap.size + 1 + 1 < wr.drew.heap.size := by show w.heap.size + 1 + 1 < wr.heap.size; omega
      have hbB2 : ∀ wA, Below wr.drew.heap.size wr.drew wA → w.heap.size + 1 + 1 < wA.heap.size := fun wA h => Nat.lt_of_lt_of_le hltB3 h.size
      have hbB3 : ∀ wA O, Below wr.drew.heap.size wr.drew wA → w.heap.size + 1 + 1 < (wA.alloc O).heap.size := fun wA O h => by
        have := hbB2 wA h
        simp; omega
      clear hso hsl hsk
      go_wp2_with fail
      go_region_law (first | (go_simp; go_at_call 10; refine (IH.out tj _ _ HTN.out.1 HTN.out.2 (HLS.out.below ((Below.refl _ _).drew))).mono ?_; rintro e wA ⟨s9, rfl, hs9, hbA⟩; rw [HKI.out, HNU.out]; have hkA := hk.out wA ((Below.refl _ _).drew.trans hbA); have hkB := hk.out (wA.alloc (.cells #[.int .i64 ki, .int .i64 nu, s9] 24)) (((Below.refl _ _).drew.trans hbA).alloc (by have := hbA.size; exact this) _); obtain ⟨p1, p2, p3, p4, p5⟩ := hkA; obtain ⟨r1, r2, r3, r4, r5⟩ := hkB) | (refine step_append_lies _ rfl (.tmp 18) (.tmp 25) 22 rfl (w.heap.size + 1 + 1 + 1) 24 i0 (.agg #[.int .i64 0, .int .i64 0, .slice none 0 0]) 3 40 Try.underlying22 hi0 hz0 hz1 hz2 rfl (by decide) V j (cells3 (ts.take j) ss) (by simp [Act.eval]) (own_alloc (own_below HO.out ((Below.refl _ _).drew.trans hbA)) _) ⟨wA.heap.size, 0, none⟩ 1 1 [.int .i64 ki, .int .i64 nu, s9] (by simp [Act.eval]) rfl (World.news_of_block (heap_alloc_new wA _)) (three_oneCell (lvP_one hs9)) (by decide) hbo1 hbo2 ?_ (wA.heap.size + 1) (by simp) ?_; (have := hbA.size; have h2 : wr.drew.heap.size = wr.heap.size := rfl; simp; omega); intro g cap' w2 hown2 hgrow hat hlt2; have hw2 := (hgrow.block (w.heap.size + 1 + 1) (hbB3 _ _ hbA) hVne).trans ((heap_alloc_old wA _ (hbB2 _ hbA)).trans ((hbA.block _ hltB3).trans hrow.out)); have hc3 := cell_of_row w2 _ 2 #[.int .i64 k, .int .i64 n, V] 24 (0, 0) hw2; have hf3 := frozen0 (p := 2) hw2))
      all_goals (
        obtain ⟨f1, f2, f3⟩ := box_round hszr HSL.out hjl HO.out HSK.out HKI.out HNU.out HTK.out HBW.out hbA hs9 hown2 hgrow hat hw2
        have HF1 := Lib.hid f1
        clear f1 hown2 hgrow hat hw2 hs9 hbA
        generalize w2.setCell ⟨w.heap.size + 1 + 1, 2, none⟩ (.slice (some ⟨g, 0, none⟩) (j + 1) cap') = w3 at *
        go_wp2_with fail
        go_roundw
        case rel => exact ⟨j + 1, _, by omega, by go_num, HF1, f2, f3⟩
        case measure => simp [intOf]; omega)
    · obtain rfl : j = len := by omega
      have hln : decide ((j : Int) < (j : Int)) = false := by simp
      have d0 : wr.cell? ⟨w.heap.size + 1 + 1, 0, none⟩ = some (.int .i64 k) := cell_of_row _ _ 0 #[.int .i64 k, .int .i64 n, V] 24 (0, 0) hrow.out
      have d1 : wr.cell? ⟨w.heap.size + 1 + 1, 1, none⟩ = some (.int .i64 n) := cell_of_row _ _ 1 #[.int .i64 k, .int .i64 n, V] 24 (0, 0) hrow.out
      obtain ⟨va, vl, vc, rfl⟩ := ownL_slice HOWN.out
      have hr1 := (HBW.out.block (w.heap.size + 1) (by omega)).trans HROW1.out
      have e0 := cell_of_row wr _ 0 #[.int .i64 0, .int .i64 0, .slice none 0 0] 24 (0, 0) hr1
      have e1 := cell_of_row wr _ 1 #[.int .i64 0, .int .i64 0, .slice none 0 0] 24 (0, 0) hr1
      have e2 := cell_of_row wr _ 2 #[.int .i64 0, .int .i64 0, .slice none 0 0] 24 (0, 0) hr1
      have g0 := frozen0 (p := 0) hr1
      have g1 := frozen0 (p := 1) hr1
      have g2 := frozen0 (p := 2) hr1
      go_wp2_with fail
      refine bodyPost_ret (results_cell_row rfl _ _ (w.heap.size + 1) 24 _ (0, 0) _ rfl (set3_row hr1) Try.underlying24 rfl (by rw [hi0, Option.map_some, hz1]; rfl)) rfl ?_
      have h7 : ts.take j = ts := List.take_of_length_le (by rw [HN.out]; exact Nat.le_refl _)
      have h8 := HOWN.out
      rw [h7] at h8
      refine ⟨_, rfl, lvP_move (w := wr) (fun b _ hp => ⟨by omega, ?_⟩) ?_ _ _ (ownL_lvP h8 (by rw [HN.out]; exact h2b) k n), below_set (below_set (below_set HB2.out _ _ ?_) _ _ ?_) _ _ ?_⟩
      · rw [setCell_far _ _ _ _ ?_, setCell_far _ _ _ _ ?_, setCell_far _ _ _ _ ?_] <;> (show b ≠ w.heap.size + 1; omega)
      · rw [setCell_size, setCell_size, setCell_size]; exact Nat.le_refl _
      all_goals (show w.heap.size ≤ w.heap.size + 1; omega)
end Go.Proofs.Yteghldgopidhhaa
