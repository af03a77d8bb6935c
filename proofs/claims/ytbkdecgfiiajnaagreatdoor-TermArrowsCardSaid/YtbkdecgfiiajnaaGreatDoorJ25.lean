import Derived.Test.YtbkdecgfiiajnaaGreatDoorJ19
import Derived.Test.YtbkdecgfiiajnaaGreatDoorJ03
import Derived.Laws.ResultCell
import Derived.Test.YtbkdecgfiiajnaaGreatDoorJ11
import Derived.Test.YtbkdecgfiiajnaaGreatDoorJ18
/-
  The contract of the reference's Inst at any levels.
  Conditions: the levels lie in memory as told by 'LvV' and 'LvL'.
-/
namespace Go.Proofs.YtbkdecgfiiajnaaGreatDoor
open Go.RowKit
open Lvl

/-- Is there an answer? -/
def instB (bs : List Lv) (t : Lv) : Bool := rightB (bs.length : Int) t && (bs.all (rightB 4) && decide (nodes (instF bs t) ≤ 64))
/-- The answered level. -/
def instR (bs : List Lv) (t : Lv) : Lv := if instB bs t then instF bs t else .mk 0 0 []
/-- A level in new memory and a truth value are answered. -/
def InstRet (w : World) (bs : List Lv) (t : Lv) (e : Ending) (w' : World) : Prop :=
  ∃ s, e = .returned (.tuple #[.agg #[.int .i64 (kindOf (instR bs t)), .int .i64 (numOf (instR bs t)), s], .bool (instB bs t)]) ∧ LvP w' (fun b => w.heap.size ≤ b) (instR bs t) s ∧ Below w.heap.size w w'
theorem results_row_tmp {P : Program} {fn : Func} {p u : Tmp} {ty : TypeId} (h : fn.results = #[.cell p ty, .tmp u]) (tmps : Array Value) (w : World) (g : Nat) (t : TypeId) (cs : Array Value) (fr : Nat × Nat) (d : TypeDesc)
    (hp : tmps.getD p undef = .pointer (some ⟨g, 0, none⟩)) (hg : w.heap[g]? = some (.cells cs t fr))
    (hu : P.underlying ty = some d) (hd : (match d with | .struct _ | .array _ _ => true | _ => false) = true) (hi : (P.info? ty).map (·.size) = some cs.size) :
    (results fn tmps).run P w = .ok (.tuple #[.agg cs, tmps.getD u undef]) w := by
  rw [results_cell_tmp h, hp]
  simp [asAddr, run_loadVar_row w g t ty cs fr d hg hu hd hi]
theorem rightB_nodes {n : Int} {t : Lv} (h : rightB n t = true) : nodes t ≤ 64 ∧ okB n t = true := by
  unfold rightB at h
  simp at h
  exact ⟨h.1.2, h.2⟩
/-- No answer: the zero level is handed back. -/
theorem instRet_no {w X : World} {bs : List Lv} {t : Lv} {v : Value} (hf : instB bs t = false) (hx : Below w.heap.size w X) (hv : v = .tuple #[.agg #[.int .i64 0, .int .i64 0, .slice none 0 0], .bool false]) : InstRet w bs t (.returned v) X := by
  have hr : instR bs t = .mk 0 0 [] := by unfold instR; rw [hf]; rfl
  refine ⟨.slice none 0 0, ?_, ?_, hx⟩
  · rw [hr, hf, hv]; try rfl
  · rw [hr, LvP]
    exact ⟨none, 0, 0, rfl, rfl, Nat.le_refl _, by omega, fun _ => rfl, by rw [LsP]; trivial⟩

end Go.Proofs.YtbkdecgfiiajnaaGreatDoor
/-
  The contract of the program's function Inst.
  Conditions: the levels lie in memory as told by 'LvV' and 'LvL', and have at most 1000 nodes each.
-/
namespace Go.Proofs.YtbkdecgfiiajnaaGreatDoor
open Go.RowKit
open Lvl

mutual
theorem nodes_instF (bs : List Lv) (hb : ∀ b ∈ bs, nodes b ≤ 1000) : ∀ t : Lv, nodes (instF bs t) ≤ nodes t * 1000
  | .mk k n ts => by
    rw [instF]
    by_cases hk : k = 2
    · rw [if_pos hk]
      have h1 : 1 ≤ nodes (.mk k n ts) := nodes_pos _
      rcases Nat.lt_or_ge n.toNat bs.length with h | h
      · have : bs.getD n.toNat (.mk k n ts) = bs[n.toNat] := by simp [List.getD, h]
        rw [this]
        have := hb _ (List.getElem_mem h)
        omega
      · have : bs.getD n.toNat (.mk k n ts) = .mk k n ts := by simp [List.getD, List.getElem?_eq_none h]
        rw [this]
        omega
    · rw [if_neg hk, nodes, nodes]
      have := nodes_instL bs hb ts
      omega
theorem nodes_instL (bs : List Lv) (hb : ∀ b ∈ bs, nodes b ≤ 1000) : ∀ ts : List Lv, nodesL (instL bs ts) ≤ nodesL ts * 1000
  | [] => by rw [instL, nodesL]; omega
  | a :: ts => by
    rw [instL, nodesL, nodesL]
    have := nodes_instF bs hb a
    have := nodes_instL bs hb ts
    omega
end

set_option maxRecDepth 100000 in
set_option maxHeartbeats 1000000 in
theorem wrong_is (t : Lv) (v : Value) (w : World) (hv : LvV w t v) (hm : nodes t ≤ 1000) (b : Bool) (hb : rightB 4 t = b) :
    Calls Tryz.prog 73 #[v] w (Ret w (.bool (!b))) := by
  obtain ⟨s, rfl, hs⟩ := hv
  have HVT := Lib.hid (show LvV w t _ from ⟨s, rfl, hs⟩)
  have HR := Lib.hid hb
  have HM := Lib.hid (show nodes t ≤ 100000 by omega)
  generalize kindOf t = k at *
  generalize numOf t = n at *
  clear hs hb hm
  go_enter Tryz.func73, Tryz.ntmps73
  go_wp2_with fail
  have HB := Lib.hid (below_lit w (.cells #[.int .i64 k, .int .i64 n, s] 45))
  generalize w.alloc (.cells #[.int .i64 k, .int .i64 n, s] 45) = W at *
  refine (right_any t _ 4 W (HVT.out.below HB.out) HM.out b HR.out).mono ?_
  rintro e w2 ⟨rfl, hb⟩
  have HB2 := Lib.hid (HB.out.trans (hb.mono HB.out.size))
  clear hb
  go_wp2_with fail
  go_ret
  exact ⟨by first | rfl | (cases b <;> rfl), HB2.out⟩

set_option maxRecDepth 100000 in
set_option maxHeartbeats 2000000 in
theorem indexFunc_is (bs : List Lv) (A : Option Addr) (len cap : Nat) (w : World) (hl : bs.length = len) (hlc : len ≤ cap) (hl7 : len ≤ 140737488355328) (hs : LsV w A 0 bs) (hm : ∀ b ∈ bs, nodes b ≤ 1000) :
    Calls Tryz.prog 82 #[.slice A len cap, .func (.func 73) #[] #[]] w (fun e w' => ∃ r : Int, e = .returned (.int .i64 r) ∧ (-1 ≤ r ∧ r < 140737488355328) ∧ decide (0 ≤ r) = !(bs.all (rightB 4)) ∧ Below w.heap.size w w') := by
  have HS := Lib.hid hs
  have HN := Lib.hid hl
  have HM := Lib.hid hm
  clear hs hl hm
  go_enter Tryz.func82, Tryz.ntmps82
  go_wp2_with fail
  go_loopw [8] (fun i wr => ∃ j : Nat, j ≤ len ∧ i = .int .i64 j ∧ Hid ((bs.take j).all (rightB 4) = true) ∧ Below w.heap.size w wr) (fun i _ => len - (intOf i).toNat)
  case atStart => exact ⟨0, Nat.zero_le _, rfl, by have : (bs.take 0).all (rightB 4) = true := (by simp); exact this, Below.refl _ _⟩
  case round =>
    obtain ⟨j, hj, rfl, hal, hb⟩ := hrel
    have HBW := Lib.hid hb
    have HSW := Lib.hid (lsV_below hb _ _ _ HS.out)
    clear hb
    by_cases hlt : j < len
    · have hx1 : j < bs.length := by rw [HN.out]; exact hlt
      have hln : decide ((j : Int) < (len : Int)) = true := by simp; omega
      obtain ⟨b, o, s, rfl, hbs, hc0, hc1, hc2, hls⟩ := lsV_get HSW.out j hx1
      have HLS : Hid (LvV wr bs[j] (.agg #[.int .i64 (kindOf bs[j]), .int .i64 (numOf bs[j]), s])) := ⟨_, rfl, hls⟩
      have HTK := Lib.hid (show bs.take (j + 1) = bs.take j ++ [bs[j]] by rw [List.take_add_one, List.getElem?_eq_getElem hx1]; rfl)
      have HME := Lib.hid (show bs[j] ∈ bs from List.getElem_mem hx1)
      have q1 : (0 : Int) ≤ (j : Int) := by omega
      have q2 : (j : Int) < (len : Int) := by omega
      generalize kindOf bs[j] = ki at *
      generalize numOf bs[j] = nu at *
      generalize bs[j] = tj at *
      obtain ⟨r, hr⟩ : ∃ r, rightB 4 tj = r := ⟨_, rfl⟩
      have HR := Lib.hid hr
      clear hls hr
      go_wp2_with fail
      refine (wrong_is tj _ wr HLS.out (HM.out _ HME.out) r HR.out).mono ?_
      rintro e w2 ⟨rfl, hb2⟩
      have HB2 := Lib.hid (HBW.out.trans (hb2.mono HBW.out.size))
      clear hb2 hc0 hc1 hc2
      cases r
      · have HF : Hid (bs.all (rightB 4) = false) := by
          have : bs.all (rightB 4) = false := by
            rw [List.all_eq_false]
            exact ⟨tj, HME.out, by rw [HR.out]; simp⟩
          exact this
        go_wp2_with fail
        go_ret
        exact ⟨(j : Int), rfl, ⟨by omega, by omega⟩, by rw [HF.out]; simp, HB2.out⟩
      · have HAL : Hid ((bs.take (j + 1)).all (rightB 4) = true) := by
          have : (bs.take (j + 1)).all (rightB 4) = true := by rw [HTK.out, List.all_append, hal.out, List.all_cons, HR.out]; rfl
          exact this
        go_wp2_with fail
        go_roundw
        case rel => exact ⟨j + 1, by omega, by go_num, HAL, HB2.out⟩
        case measure => simp [intOf]; omega
    · obtain rfl : j = len := by omega
      have hln : decide ((j : Int) < (j : Int)) = false := by simp
      have HF : Hid (bs.all (rightB 4) = true) := by
        have := hal.out
        rw [List.take_of_length_le (by rw [HN.out]; exact Nat.le_refl _)] at this
        exact this
      go_wp2_with fail
      go_ret
      exact ⟨-1, rfl, ⟨by omega, by omega⟩, by rw [HF.out]; rfl, HBW.out⟩
set_option maxRecDepth 100000 in
set_option maxHeartbeats 1000000 in
theorem containsFunc_is (bs : List Lv) (A : Option Addr) (len cap : Nat) (w : World) (hl : bs.length = len) (hlc : len ≤ cap) (hl7 : len ≤ 140737488355328) (hs : LsV w A 0 bs) (hm : ∀ b ∈ bs, nodes b ≤ 1000) (b : Bool) (hb : bs.all (rightB 4) = b) :
    Calls Tryz.prog 65 #[.slice A len cap, .func (.func 73) #[] #[]] w (Ret w (.bool (!b))) := by
  have CI := Lib.hid (indexFunc_is bs A len cap w hl hlc hl7 hs hm)
  rw [hb] at CI
  clear hl hs hm hb
  go_enter Tryz.func65, Tryz.ntmps65
  go_wp2_with fail
  refine CI.out.mono ?_
  rintro e w9 ⟨r, rfl, ⟨h1, h2⟩, h3, hb⟩
  have HB9 := Lib.hid hb
  clear hb
  go_wp2_with fail
  go_ret
  exact ⟨by first | rfl | (rw [h3]), HB9.out⟩

set_option maxRecDepth 100000 in
set_option maxHeartbeats 4000000 in
theorem inst_any (bs : List Lv) (t : Lv) (v Vb : Value) (w : World) (hv : LvV w t v) (hvb : LvL w Vb bs) (hm : nodes t ≤ 1000) (hmb : ∀ b ∈ bs, nodes b ≤ 1000) :
    Calls Tryz.prog 51 #[v, Vb] w (InstRet w bs t) := by
  obtain ⟨i0, hi0, hz0, hz1, hz2⟩ := info_parts infoLv
  obtain ⟨s, rfl, hs⟩ := hv
  have HLS : Hid (LvV w t (.agg #[.int .i64 (kindOf t), .int .i64 (numOf t), s])) := ⟨s, rfl, hs⟩
  generalize kindOf t = ki at *
  generalize numOf t = nu at *
  have HVB := Lib.hid hvb
  have HM := Lib.hid hm
  have HMB := Lib.hid hmb
  unfold LvL at hvb
  rw [LvS] at hvb
  obtain ⟨A, len, cap, rfl, q1, q2, q2b, q3, q4⟩ := hvb
  have HQ := Lib.hid q4
  have HN := Lib.hid q1
  clear hs q1 q3 q4 hm hmb
  obtain ⟨r, hr⟩ : ∃ r, rightB (len : Int) t = r := ⟨_, rfl⟩
  have HR := Lib.hid hr
  obtain ⟨ra, hra⟩ : ∃ r, bs.all (rightB 4) = r := ⟨_, rfl⟩
  have HRA := Lib.hid hra
  clear hr hra
  go_enter Tryz.func51, Tryz.ntmps51
  go_wp2_with fail
  obtain ⟨a0, a1, a2⟩ := box_cells w (.int .i64 ki) (.int .i64 nu) s 45
  have H0 := Lib.hid (below_lit w (.cells #[.int .i64 ki, .int .i64 nu, s] 45))
  have z0 : (w.alloc (.cells #[.int .i64 ki, .int .i64 nu, s] 45)).heap.size = w.heap.size + 1 := by simp
  generalize w.alloc (.cells #[.int .i64 ki, .int .i64 nu, s] 45) = W0 at *
  have H1 := Lib.hid (below_lit W0 (.cells #[.int .i64 0, .int .i64 0, .slice none 0 0] 45))
  have hx := heap_alloc_new W0 (.cells #[.int .i64 0, .int .i64 0, .slice none 0 0] 45)
  have z1 : (W0.alloc (.cells #[.int .i64 0, .int .i64 0, .slice none 0 0] 45)).heap.size = w.heap.size + 1 + 1 := by simp [z0]
  rw [z0] at hx
  generalize W0.alloc (.cells #[.int .i64 0, .int .i64 0, .slice none 0 0] 45) = X at *
  have hk0 : Hid (∀ Y, Below (w.heap.size + 1 + 1) X Y → Y.cell? ⟨w.heap.size, 0, none⟩ = some (.int .i64 ki) ∧ Y.cell? ⟨w.heap.size, 1, none⟩ = some (.int .i64 nu) ∧ Y.cell? ⟨w.heap.size, 2, none⟩ = some s ∧ Y.heap[w.heap.size + 1]? = some (.cells #[.int .i64 0, .int .i64 0, .slice none 0 0] 45) ∧ w.heap.size + 1 + 1 ≤ Y.heap.size ∧ Below w.heap.size w Y) := fun Y hb =>
    ⟨((hb.cell (p := ⟨w.heap.size, 0, none⟩) (by show w.heap.size < w.heap.size + 1 + 1; omega)).trans (H1.out.cell (p := ⟨w.heap.size, 0, none⟩) (by show w.heap.size < W0.heap.size; omega))).trans a0,
     ((hb.cell (p := ⟨w.heap.size, 1, none⟩) (by show w.heap.size < w.heap.size + 1 + 1; omega)).trans (H1.out.cell (p := ⟨w.heap.size, 1, none⟩) (by show w.heap.size < W0.heap.size; omega))).trans a1,
     ((hb.cell (p := ⟨w.heap.size, 2, none⟩) (by show w.heap.size < w.heap.size + 1 + 1; omega)).trans (H1.out.cell (p := ⟨w.heap.size, 2, none⟩) (by show w.heap.size < W0.heap.size; omega))).trans a2,
     (hb.block (w.heap.size + 1) (by omega)).trans hx, by rw [← z1]; exact hb.size, (H0.out.trans (H1.out.mono H0.out.size)).trans (hb.mono (by omega))⟩
  have HZ := Lib.hid z1
  have HX := Lib.hid (hk0.out X (Below.refl _ _)).2.2.2.2.2
  clear a0 a1 a2 hx z0 z1 H0 H1
  refine (right_any t _ (len : Int) X (HLS.out.below HX.out) (by have := HM.out; omega) r HR.out).mono ?_
  rintro e W ⟨rfl, hb⟩
  have HB := Lib.hid (show Below (w.heap.size + 1 + 1) X W by rw [← HZ.out]; exact hb)
  clear hb
  by_cases hrt : r = true
  case neg =>
    obtain rfl : r = false := by simpa using hrt
    obtain ⟨b0, b1, b2, hr1, b4, b5⟩ := hk0.out W HB.out
    have e0 := cell_of_row W _ 0 #[.int .i64 0, .int .i64 0, .slice none 0 0] 45 (0, 0) hr1
    have e1 := cell_of_row W _ 1 #[.int .i64 0, .int .i64 0, .slice none 0 0] 45 (0, 0) hr1
    have e2 := cell_of_row W _ 2 #[.int .i64 0, .int .i64 0, .slice none 0 0] 45 (0, 0) hr1
    have g0 := frozen0 (p := 0) hr1
    have g1 := frozen0 (p := 1) hr1
    have g2 := frozen0 (p := 2) hr1
    have HF : Hid (instB bs t = false) := by
      have : instB bs t = false := by unfold instB; rw [HN.out, HR.out]; rfl
      exact this
    have HB5 := Lib.hid b5
    clear b5 hrt
    go_wp2_with fail
    refine bodyPost_ret (results_row_tmp rfl _ _ (w.heap.size + 1) 45 _ (0, 0) _ rfl (set3_row hr1) Tryz.underlying45 rfl (by rw [hi0, Option.map_some, hz1]; rfl)) rfl ?_
    exact instRet_no HF.out (below_set (below_set (below_set HB5.out _ _ (Nat.le_succ _)) _ _ (Nat.le_succ _)) _ _ (Nat.le_succ _)) rfl
  subst hrt
  have HRN := Lib.hid (rightB_nodes HR.out)
  obtain ⟨_, _, _, _, w4, w5⟩ := hk0.out W HB.out
  have HW5 := Lib.hid w5
  have HW4 := Lib.hid w4
  clear w5 w4
  go_wp2_with fail
  refine (containsFunc_is bs A len cap W HN.out q2 q2b (lsV_below HW5.out _ _ _ HQ.out) HMB.out ra HRA.out).mono ?_
  rintro e W2 ⟨rfl, hb⟩
  have HB2 := Lib.hid (HB.out.trans (hb.mono HW4.out))
  clear hb
  by_cases hrt : ra = true
  case neg =>
    obtain rfl : ra = false := by simpa using hrt
    obtain ⟨b0, b1, b2, hr1, b4, b5⟩ := hk0.out W2 HB2.out
    have e0 := cell_of_row W2 _ 0 #[.int .i64 0, .int .i64 0, .slice none 0 0] 45 (0, 0) hr1
    have e1 := cell_of_row W2 _ 1 #[.int .i64 0, .int .i64 0, .slice none 0 0] 45 (0, 0) hr1
    have e2 := cell_of_row W2 _ 2 #[.int .i64 0, .int .i64 0, .slice none 0 0] 45 (0, 0) hr1
    have g0 := frozen0 (p := 0) hr1
    have g1 := frozen0 (p := 1) hr1
    have g2 := frozen0 (p := 2) hr1
    have HF : Hid (instB bs t = false) := by
      have : instB bs t = false := by unfold instB; rw [HRA.out]; simp
      exact this
    have HB8 := Lib.hid b5
    clear b5 hrt
    go_wp2_with fail
    refine bodyPost_ret (results_row_tmp rfl _ _ (w.heap.size + 1) 45 _ (0, 0) _ rfl (set3_row hr1) Tryz.underlying45 rfl (by rw [hi0, Option.map_some, hz1]; rfl)) rfl ?_
    exact instRet_no HF.out (below_set (below_set (below_set HB8.out _ _ (Nat.le_succ _)) _ _ (Nat.le_succ _)) _ _ (Nat.le_succ _)) rfl
  subst hrt
  obtain ⟨b0, b1, b2, _, b4, b5⟩ := hk0.out W2 HB2.out
  have HB5 := Lib.hid b5
  have HB4 := Lib.hid b4
  have HMO : Hid (nodes t ≤ 1000 ∧ okB (bs.length : Int) t = true) := ⟨HM.out, by rw [HN.out]; exact HRN.out.2⟩
  have HG1 : Hid (nodes (instF bs t) ≤ 100000) := by
    have h1 := nodes_instF bs HMB.out t
    have h2 := HRN.out.1
    have : nodes (instF bs t) ≤ 100000 := by omega
    exact this
  obtain ⟨k9, hk9⟩ : ∃ k, kindOf (instF bs t) = k := ⟨_, rfl⟩
  obtain ⟨n9, hn9⟩ : ∃ n, numOf (instF bs t) = n := ⟨_, rfl⟩
  have HK9 := Lib.hid hk9
  have HN9 := Lib.hid hn9
  obtain ⟨G, hG⟩ : ∃ G, min (nodes (instF bs t)) 65 = G := ⟨_, rfl⟩
  have HG := Lib.hid hG
  clear hG hk9 hn9 b4 b5
  go_wp2_with fail
  refine (put_up bs HMB.out _ t _ _ W2 (Nat.le_refl _) HMO.out.1 HMO.out.2 (HLS.out.below HB5.out) (HVB.out.below HB5.out)).mono ?_
  rintro e wA ⟨s9, rfl, hs9, hbA⟩
  rw [HK9.out, HN9.out]
  obtain ⟨va, vl, vc, rfl⟩ := lvP_slice hs9
  have hN := below_lit wA (.cells #[.int .i64 k9, .int .i64 n9, .slice va vl vc] 45)
  have HP9 : Hid (LvP (wA.alloc (.cells #[.int .i64 k9, .int .i64 n9, .slice va vl vc] 45)) (fun b => w.heap.size + 1 + 1 ≤ b) (instF bs t) (.slice va vl vc)) := lvP_move (w := wA) (fun b hlt hp => ⟨Nat.le_trans HB4.out hp, hN.block b hlt⟩) hN.size _ _ hs9
  have HBA := Lib.hid (HB2.out.trans ((hbA.trans (hN.mono hbA.size)).mono HB4.out))
  have h9 := heap_alloc_new wA (.cells #[.int .i64 k9, .int .i64 n9, .slice va vl vc] 45)
  have HZ9 := Lib.hid (show wA.heap.size < (wA.alloc (.cells #[.int .i64 k9, .int .i64 n9, .slice va vl vc] 45)).heap.size by simp)
  have HZA := Lib.hid (Nat.le_trans HB4.out hbA.size)
  clear hbA hN hs9 b0 b1 b2
  go_wp2_with fail
  have HLV9 : Hid (LvV (wA.alloc (.cells #[.int .i64 k9, .int .i64 n9, .slice va vl vc] 45)) (instF bs t) (.agg #[.int .i64 k9, .int .i64 n9, .slice va vl vc])) := ⟨_, by rw [HK9.out, HN9.out], lvS_of _ _ HP9.out⟩
  generalize wA.alloc (.cells #[.int .i64 k9, .int .i64 n9, .slice va vl vc] 45) = W9 at *
  refine (nodes_is _ _ W9 HLV9.out HG1.out G HG.out).mono ?_
  rintro e W10 ⟨rfl, hb⟩
  have HB10 := Lib.hid (HBA.out.trans (hb.mono (by have := HZA.out; have := HZ9.out; omega)))
  have HR9 := Lib.hid ((hb.block wA.heap.size HZ9.out).trans h9)
  have HP10 := Lib.hid (lvP_move (w := W9) (w' := W10) (Q := fun b => w.heap.size + 1 + 1 ≤ b) (fun b hlt hp => ⟨hp, hb.block b hlt⟩) hb.size _ _ HP9.out)
  obtain ⟨b0, b1, b2, hr1, b4, b5⟩ := hk0.out W10 HB10.out
  have HB8 := Lib.hid b5
  clear hb h9 b0 b1 b2 b4 b5
  have e0 := cell_of_row W10 _ 0 #[.int .i64 0, .int .i64 0, .slice none 0 0] 45 (0, 0) hr1
  have e1 := cell_of_row W10 _ 1 #[.int .i64 0, .int .i64 0, .slice none 0 0] 45 (0, 0) hr1
  have e2 := cell_of_row W10 _ 2 #[.int .i64 0, .int .i64 0, .slice none 0 0] 45 (0, 0) hr1
  have g0 := frozen0 (p := 0) hr1
  have g1 := frozen0 (p := 1) hr1
  have g2 := frozen0 (p := 2) hr1
  have c0 := cell_of_row W10 _ 0 _ 45 (0, 0) HR9.out
  have c1 := cell_of_row W10 _ 1 _ 45 (0, 0) HR9.out
  have c2 := cell_of_row W10 _ 2 _ 45 (0, 0) HR9.out
  by_cases hg : 64 < G
  · have hgd : decide ((64 : Int) < (G : Int)) = true := by simp; omega
    have HF : Hid (instB bs t = false) := by
      have h3 : decide (nodes (instF bs t) ≤ 64) = false := by
        have := HG.out
        simp; omega
      have : instB bs t = false := by unfold instB; rw [h3]; simp
      exact this
    go_wp2_with fail
    refine bodyPost_ret (results_row_tmp rfl _ _ (w.heap.size + 1) 45 _ (0, 0) _ rfl (set3_row hr1) Tryz.underlying45 rfl (by rw [hi0, Option.map_some, hz1]; rfl)) rfl ?_
    exact instRet_no HF.out (below_set (below_set (below_set HB8.out _ _ (Nat.le_succ _)) _ _ (Nat.le_succ _)) _ _ (Nat.le_succ _)) rfl
  · have hgd : decide ((64 : Int) < (G : Int)) = false := by simp; omega
    have HF : Hid (instB bs t = true) := by
      have h3 : decide (nodes (instF bs t) ≤ 64) = true := by
        have := HG.out
        simp; omega
      have : instB bs t = true := by unfold instB; rw [h3, HRA.out, HN.out, HR.out]; rfl
      exact this
    have HI : Hid (instR bs t = instF bs t) := by
      have : instR bs t = instF bs t := by unfold instR; rw [HF.out]; rfl
      exact this
    go_wp2_with fail
    refine bodyPost_ret (results_row_tmp rfl _ _ (w.heap.size + 1) 45 _ (0, 0) _ rfl (set3_row hr1) Tryz.underlying45 rfl (by rw [hi0, Option.map_some, hz1]; rfl)) rfl ?_
    refine ⟨.slice va vl vc, by rw [HI.out, HF.out, HK9.out, HN9.out]; rfl, ?_, below_set (below_set (below_set HB8.out _ _ (Nat.le_succ _)) _ _ (Nat.le_succ _)) _ _ (Nat.le_succ _)⟩
    rw [HI.out]
    refine lvP_move (w := W10) (fun b _ hp => ⟨by omega, ?_⟩) ?_ _ _ HP10.out
    · rw [setCell_far _ _ _ _ ?_, setCell_far _ _ _ _ ?_, setCell_far _ _ _ _ ?_] <;> (show b ≠ w.heap.size + 1; omega)
    · rw [setCell_size, setCell_size, setCell_size]; exact Nat.le_refl _
end Go.Proofs.YtbkdecgfiiajnaaGreatDoor
