/-
  The contract of the reference's Inst at any levels.
  Conditions: the levels lie in memory as told by 'LvV' and 'LvL'.
-/
import Derived.Test.YteghldgopidhhaaLvGrown
import Derived.Test.YteghldgopidhhaaLvVal
import Derived.Laws.ResultCell
namespace Go.Proofs.Yteghldgopidhhaa
open Go.RowKit
open Lvl

/-- Is there an answer? -/
def instB (bs : List Lv) (t : Lv) : Bool := rightB (bs.length : Int) t && (bs.all (rightB 4) && decide (nodes (instF bs t) ≤ 64))
/-- The answered level. -/
def instR (bs : List Lv) (t : Lv) : Lv := if instB bs t then instF bs t else .mk 0 0 []
/-- A level in new memory and a truth value are answered. -/
def InstRet (w : World) (bs : List Lv) (t : Lv) (e : Ending) (w' : World) : Prop :=
  ∃ s, e = .returned (.tuple #[.agg #[.int .i64 (kindOf (instR bs t)), .int .i64 (numOf (instR bs t)), s], .bool (instB bs t)]) ∧ LvP w' (fun b => w.heap.size ≤ b) (instR bs t) s ∧ Below w.heap.size w w'
theorem results_row_tmp {P : Program} {fn : Func} {p u : Tmp} {ty : TypeId} (h : fn.results = #[.cell p ty, .tmp u]) (tmps : Array Value) (w : World) (g : Nat) (t : TypeId) (cs : Array Value) (fr : Nat × Nat) (d : TypeDesc)
    (hp : tmps.getD p undef = .pointer (some ⟨g, 0, none⟩)) (hg : w.heap[g]? = some (.cells cs t fr))
    (hu : P.underlying ty = some d) (hd : (match d with | .struct _ | .array _ _ => true | _ => false) = true) (hi : (P.info? ty).map (·.size) = some cs.size) :
    (results fn tmps).run P w = .ok (.tuple #[.agg cs, tmps.getD u undef]) w := by
  rw [results_cell_tmp h, hp]
  simp [asAddr, run_loadVar_row w g t ty cs fr d hg hu hd hi]
theorem rightB_nodes {n : Int} {t : Lv} (h : rightB n t = true) : nodes t ≤ 64 ∧ okB n t = true := by
  unfold rightB at h
  simp at h
  exact ⟨h.1.2, h.2⟩
/-- No answer: the zero level is handed back. -/
theorem instRet_no {w X : World} {bs : List Lv} {t : Lv} {v : Value} (hf : instB bs t = false) (hx : Below w.heap.size w X) (hv : v = .tuple #[.agg #[.int .i64 0, .int .i64 0, .slice none 0 0], .bool false]) : InstRet w bs t (.returned v) X := by
  have hr : instR bs t = .mk 0 0 [] := by unfold instR; rw [hf]; rfl
  refine ⟨.slice none 0 0, ?_, ?_, hx⟩
  · rw [hr, hf, hv]; try rfl
  · rw [hr, LvP]
    exact ⟨none, 0, 0, rfl, rfl, Nat.le_refl _, by omega, fun _ => rfl, by rw [LsP]; trivial⟩

set_option maxRecDepth 100000 in
set_option maxHeartbeats 4000000 in
theorem refInst_any (bs : List Lv) (t : Lv) (v Vb : Value) (w : World) (hv : LvV w t v) (hvb : LvL w Vb bs) :
    Calls Try.prog 25 #[v, Vb] w (InstRet w bs t) := by
  obtain ⟨i0, hi0, hz0, hz1, hz2⟩ := info_parts infoLv
  obtain ⟨s, rfl, hs⟩ := hv
  have HLS : Hid (LvV w t (.agg #[.int .i64 (kindOf t), .int .i64 (numOf t), s])) := ⟨s, rfl, hs⟩
  generalize kindOf t = ki at *
  generalize numOf t = nu at *
  have HVB := Lib.hid hvb
  unfold LvL at hvb
  rw [LvS] at hvb
  obtain ⟨A, len, cap, rfl, q1, q2, q2b, q3, q4⟩ := hvb
  have HQ := Lib.hid q4
  have HN := Lib.hid q1
  clear hs q1 q3 q4
  obtain ⟨r, hr⟩ : ∃ r, rightB (len : Int) t = r := ⟨_, rfl⟩
  have HR := Lib.hid hr
  clear hr
  go_enter Try.func25, Try.ntmps25
  go_wp2_with fail
  obtain ⟨a0, a1, a2⟩ := box_cells w (.int .i64 ki) (.int .i64 nu) s 24
  have H0 := Lib.hid (below_lit w (.cells #[.int .i64 ki, .int .i64 nu, s] 24))
  have z0 : (w.alloc (.cells #[.int .i64 ki, .int .i64 nu, s] 24)).heap.size = w.heap.size + 1 := by simp
  generalize w.alloc (.cells #[.int .i64 ki, .int .i64 nu, s] 24) = W0 at *
  have H1 := Lib.hid (below_lit W0 (.cells #[.int .i64 0, .int .i64 0, .slice none 0 0] 24))
  have hx := heap_alloc_new W0 (.cells #[.int .i64 0, .int .i64 0, .slice none 0 0] 24)
  have z1 : (W0.alloc (.cells #[.int .i64 0, .int .i64 0, .slice none 0 0] 24)).heap.size = w.heap.size + 1 + 1 := by simp [z0]
  rw [z0] at hx
  generalize W0.alloc (.cells #[.int .i64 0, .int .i64 0, .slice none 0 0] 24) = X at *
  have hk0 : Hid (∀ Y, Below (w.heap.size + 1 + 1) X Y → Y.cell? ⟨w.heap.size, 0, none⟩ = some (.int .i64 ki) ∧ Y.cell? ⟨w.heap.size, 1, none⟩ = some (.int .i64 nu) ∧ Y.cell? ⟨w.heap.size, 2, none⟩ = some s ∧ Y.heap[w.heap.size + 1]? = some (.cells #[.int .i64 0, .int .i64 0, .slice none 0 0] 24) ∧ w.heap.size + 1 + 1 ≤ Y.heap.size ∧ Below w.heap.size w Y) := fun Y hb =>
    ⟨((hb.cell (p := ⟨w.heap.size, 0, none⟩) (by show w.heap.size < w.heap.size + 1 + 1; omega)).trans (H1.out.cell (p := ⟨w.heap.size, 0, none⟩) (by show w.heap.size < W0.heap.size; omega))).trans a0,
     ((hb.cell (p := ⟨w.heap.size, 1, none⟩) (by show w.heap.size < w.heap.size + 1 + 1; omega)).trans (H1.out.cell (p := ⟨w.heap.size, 1, none⟩) (by show w.heap.size < W0.heap.size; omega))).trans a1,
     ((hb.cell (p := ⟨w.heap.size, 2, none⟩) (by show w.heap.size < w.heap.size + 1 + 1; omega)).trans (H1.out.cell (p := ⟨w.heap.size, 2, none⟩) (by show w.heap.size < W0.heap.size; omega))).trans a2,
     (hb.block (w.heap.size + 1) (by omega)).trans hx, by rw [← z1]; exact hb.size, (H0.out.trans (H1.out.mono H0.out.size)).trans (hb.mono (by omega))⟩
  have HZ := Lib.hid z1
  have HX := Lib.hid (hk0.out X (Below.refl _ _)).2.2.2.2.2
  clear a0 a1 a2 hx z0 z1 H0 H1
  refine (refRight_any t _ (len : Int) X (HLS.out.below HX.out) r HR.out).mono ?_
  rintro e W ⟨rfl, hb⟩
  have HB := Lib.hid (show Below (w.heap.size + 1 + 1) X W by rw [← HZ.out]; exact hb)
  clear hb
  by_cases hrt : r = true
  case neg =>
    obtain rfl : r = false := by simpa using hrt
    obtain ⟨b0, b1, b2, hr1, b4, b5⟩ := hk0.out W HB.out
    have e0 := cell_of_row W _ 0 #[.int .i64 0, .int .i64 0, .slice none 0 0] 24 (0, 0) hr1
    have e1 := cell_of_row W _ 1 #[.int .i64 0, .int .i64 0, .slice none 0 0] 24 (0, 0) hr1
    have e2 := cell_of_row W _ 2 #[.int .i64 0, .int .i64 0, .slice none 0 0] 24 (0, 0) hr1
    have g0 := frozen0 (p := 0) hr1
    have g1 := frozen0 (p := 1) hr1
    have g2 := frozen0 (p := 2) hr1
    have HF : Hid (instB bs t = false) := by
      have : instB bs t = false := by unfold instB; rw [HN.out, HR.out]; rfl
      exact this
    have HB5 := Lib.hid b5
    clear b5 hrt
    go_wp2_with fail
    refine bodyPost_ret (results_row_tmp rfl _ _ (w.heap.size + 1) 24 _ (0, 0) _ rfl (set3_row hr1) Try.underlying24 rfl (by rw [hi0, Option.map_some, hz1]; rfl)) rfl ?_
    exact instRet_no HF.out (below_set (below_set (below_set HB5.out _ _ (Nat.le_succ _)) _ _ (Nat.le_succ _)) _ _ (Nat.le_succ _)) rfl
  subst hrt
  have HRN := Lib.hid (rightB_nodes HR.out)
  go_wp2_with fail
  go_loopw [6] (fun i wr => ∃ j : Nat, j ≤ len ∧ i = .int .i64 j ∧ Hid ((bs.take j).all (rightB 4) = true) ∧ Below (w.heap.size + 1 + 1) X wr) (fun i _ => len - (intOf i).toNat)
  case atStart => exact ⟨0, Nat.zero_le _, rfl, by have : (bs.take 0).all (rightB 4) = true := (by simp); exact this, HB.out⟩
  case round =>
    obtain ⟨j, hj, rfl, hal, hb⟩ := hrel
    have HBW := Lib.hid hb
    obtain ⟨b0, b1, b2, hr1, b4, b5⟩ := hk0.out wr hb
    have HB5 := Lib.hid b5
    clear hb b5
    by_cases hlt : j < len
    · have hx1 : j < bs.length := by rw [HN.out]; exact hlt
      have hln : decide ((j : Int) < (len : Int)) = true := by simp; omega
      obtain ⟨b, o, s', rfl, hbs, hc0, hc1, hc2, hls⟩ := lsV_get (lsV_below HB5.out _ _ _ HQ.out) j hx1
      have HLS2 : Hid (LvV wr bs[j] (.agg #[.int .i64 (kindOf bs[j]), .int .i64 (numOf bs[j]), s'])) := ⟨s', rfl, hls⟩
      have HTK := Lib.hid (show bs.take (j + 1) = bs.take j ++ [bs[j]] by rw [List.take_add_one, List.getElem?_eq_getElem hx1]; rfl)
      have HME := Lib.hid (show bs[j] ∈ bs from List.getElem_mem hx1)
      have q1 : (0 : Int) ≤ (j : Int) := by omega
      have q2 : (j : Int) < (len : Int) := by omega
      generalize kindOf bs[j] = ki2 at *
      generalize numOf bs[j] = nu2 at *
      generalize bs[j] = tj at *
      clear hls
      go_wp2_with fail
      obtain ⟨r2, hr2⟩ : ∃ r, rightB 4 tj = r := ⟨_, rfl⟩
      have HR2 := Lib.hid hr2
      clear hr2
      refine (refRight_any tj _ 4 wr HLS2.out r2 HR2.out).mono ?_
      rintro e W2 ⟨rfl, hb2⟩
      have HB2 := Lib.hid (HBW.out.trans (hb2.mono b4))
      clear hb2 hr1 b0 b1 b2 hc0 hc1 hc2 HLS2 hbs
      by_cases hrt : r2 = true
      case neg =>
        obtain rfl : r2 = false := by simpa using hrt
        obtain ⟨b0, b1, b2, hr1, b7, b8⟩ := hk0.out W2 HB2.out
        have e0 := cell_of_row W2 _ 0 #[.int .i64 0, .int .i64 0, .slice none 0 0] 24 (0, 0) hr1
        have e1 := cell_of_row W2 _ 1 #[.int .i64 0, .int .i64 0, .slice none 0 0] 24 (0, 0) hr1
        have e2 := cell_of_row W2 _ 2 #[.int .i64 0, .int .i64 0, .slice none 0 0] 24 (0, 0) hr1
        have g0 := frozen0 (p := 0) hr1
        have g1 := frozen0 (p := 1) hr1
        have g2 := frozen0 (p := 2) hr1
        have HF : Hid (instB bs t = false) := by
          have h3 : bs.all (rightB 4) = false := by
            rw [List.all_eq_false]
            exact ⟨tj, HME.out, by rw [HR2.out]; simp⟩
          have : instB bs t = false := by unfold instB; rw [h3]; simp
          exact this
        have HB8 := Lib.hid b8
        clear b8 hrt
        go_wp2_with fail
        refine bodyPost_ret (results_row_tmp rfl _ _ (w.heap.size + 1) 24 _ (0, 0) _ rfl (set3_row hr1) Try.underlying24 rfl (by rw [hi0, Option.map_some, hz1]; rfl)) rfl ?_
        exact instRet_no HF.out (below_set (below_set (below_set HB8.out _ _ (Nat.le_succ _)) _ _ (Nat.le_succ _)) _ _ (Nat.le_succ _)) rfl
      subst hrt
      have HAL2 : Hid ((bs.take (j + 1)).all (rightB 4) = true) := by
        have : (bs.take (j + 1)).all (rightB 4) = true := by rw [HTK.out, List.all_append, hal.out, List.all_cons, HR2.out]; rfl
        exact this
      clear HTK HR2 HME
      go_wp2_with fail
      go_roundw
      case rel => exact ⟨j + 1, by omega, by go_num, HAL2, HB2.out⟩
      case measure => simp [intOf]; omega
    · have hln : decide ((j : Int) < (len : Int)) = false := by simp; omega
      have HALL : Hid (bs.all (rightB 4) = true) := by
        have := hal.out
        rw [List.take_of_length_le (by rw [HN.out]; omega)] at this
        exact this
      have HBS : Hid (∀ b ∈ bs, nodes b ≤ 64) := fun b hb => (rightB_nodes (List.all_eq_true.1 HALL.out b hb)).1
      have HBT : Hid (∀ b ∈ bs, nodes b ≤ 1000) := fun b hb => Nat.le_trans (HBS.out b hb) (by omega)
      have HM : Hid (nodes t ≤ 1000 ∧ okB (bs.length : Int) t = true) := ⟨Nat.le_trans HRN.out.1 (by omega), by rw [HN.out]; exact HRN.out.2⟩
      obtain ⟨G, hG⟩ : ∃ G, nodes (instF bs t) = G := ⟨_, rfl⟩
      have HG := Lib.hid hG
      clear hG
      go_wp2_with fail
      refine (grown_up bs HBS.out _ t _ _ wr (Nat.le_refl _) HM.out.1 HM.out.2 (HLS.out.below HB5.out) (HVB.out.below HB5.out)).mono ?_
      rintro e W2 ⟨rfl, hb2⟩
      rw [HG.out]
      have HB2 := Lib.hid (HBW.out.trans (hb2.mono b4))
      clear hb2 hr1 b0 b1 b2 HB5
      obtain ⟨b0, b1, b2, hr1, b7, b8⟩ := hk0.out W2 HB2.out
      have HB8 := Lib.hid b8
      clear b8
      by_cases hg : 64 < G
      · have hgd : decide ((64 : Int) < (G : Int)) = true := by simp; omega
        have e0 := cell_of_row W2 _ 0 #[.int .i64 0, .int .i64 0, .slice none 0 0] 24 (0, 0) hr1
        have e1 := cell_of_row W2 _ 1 #[.int .i64 0, .int .i64 0, .slice none 0 0] 24 (0, 0) hr1
        have e2 := cell_of_row W2 _ 2 #[.int .i64 0, .int .i64 0, .slice none 0 0] 24 (0, 0) hr1
        have g0 := frozen0 (p := 0) hr1
        have g1 := frozen0 (p := 1) hr1
        have g2 := frozen0 (p := 2) hr1
        have HF : Hid (instB bs t = false) := by
          have h3 : decide (nodes (instF bs t) ≤ 64) = false := by rw [HG.out]; simp; omega
          have : instB bs t = false := by unfold instB; rw [h3]; simp
          exact this
        go_wp2_with fail
        refine bodyPost_ret (results_row_tmp rfl _ _ (w.heap.size + 1) 24 _ (0, 0) _ rfl (set3_row hr1) Try.underlying24 rfl (by rw [hi0, Option.map_some, hz1]; rfl)) rfl ?_
        exact instRet_no HF.out (below_set (below_set (below_set HB8.out _ _ (Nat.le_succ _)) _ _ (Nat.le_succ _)) _ _ (Nat.le_succ _)) rfl
      · have hgd : decide ((64 : Int) < (G : Int)) = false := by simp; omega
        have HF : Hid (instB bs t = true) := by
          have h3 : decide (nodes (instF bs t) ≤ 64) = true := by rw [HG.out]; simp; omega
          have : instB bs t = true := by unfold instB; rw [h3, HALL.out, HN.out, HR.out]; rfl
          exact this
        have HI : Hid (instR bs t = instF bs t) := by
          have : instR bs t = instF bs t := by unfold instR; rw [HF.out]; rfl
          exact this
        go_wp2_with fail
        refine (inst_up bs HBT.out _ t _ _ W2 (Nat.le_refl _) HM.out.1 HM.out.2 (HLS.out.below HB8.out) (HVB.out.below HB8.out)).mono ?_
        rintro e wA ⟨s9, rfl, hs9, hbA⟩
        have HBA := Lib.hid (HB2.out.trans (hbA.mono b7))
        obtain ⟨va, vl, vc, rfl⟩ := lvP_slice hs9
        have HS9 := Lib.hid hs9
        have HW2 := Lib.hid b7
        clear hs9 hbA hr1 b0 b1 b2 b7 b4
        obtain ⟨b0, b1, b2, hr1, b7, b9⟩ := hk0.out wA HBA.out
        have HB9 := Lib.hid b9
        clear b9
        have e0 := cell_of_row wA _ 0 #[.int .i64 0, .int .i64 0, .slice none 0 0] 24 (0, 0) hr1
        have e1 := cell_of_row wA _ 1 #[.int .i64 0, .int .i64 0, .slice none 0 0] 24 (0, 0) hr1
        have e2 := cell_of_row wA _ 2 #[.int .i64 0, .int .i64 0, .slice none 0 0] 24 (0, 0) hr1
        have g0 := frozen0 (p := 0) hr1
        have g1 := frozen0 (p := 1) hr1
        have g2 := frozen0 (p := 2) hr1
        generalize hk9 : kindOf (instF bs t) = k9 at *
        generalize hn9 : numOf (instF bs t) = n9 at *
        have HK9 := Lib.hid hk9
        have HN9 := Lib.hid hn9
        clear hk9 hn9
        go_wp2_with fail
        refine bodyPost_ret (results_row_tmp rfl _ _ (w.heap.size + 1) 24 _ (0, 0) _ rfl (set3_row hr1) Try.underlying24 rfl (by rw [hi0, Option.map_some, hz1]; rfl)) rfl ?_
        refine ⟨.slice va vl vc, by rw [HI.out, HF.out, HK9.out, HN9.out]; rfl, ?_, below_set (below_set (below_set HB9.out _ _ (Nat.le_succ _)) _ _ (Nat.le_succ _)) _ _ (Nat.le_succ _)⟩
        rw [HI.out]
        refine lvP_move (w := wA) (fun b _ hp => ⟨by have := HW2.out; omega, ?_⟩) ?_ _ _ HS9.out
        · have := HW2.out
          rw [setCell_far _ _ _ _ ?_, setCell_far _ _ _ _ ?_, setCell_far _ _ _ _ ?_] <;> (show b ≠ w.heap.size + 1; omega)
        · rw [setCell_size, setCell_size, setCell_size]; exact Nat.le_refl _
end Go.Proofs.Yteghldgopidhhaa
