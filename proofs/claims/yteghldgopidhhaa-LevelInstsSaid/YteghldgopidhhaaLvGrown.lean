/-
  The contract of the reference's grown: how many nodes the level has with others in place of its parameters.
  Conditions: as inst's; the others have at most 64 nodes each.
-/
import Derived.Test.YteghldgopidhhaaLvInst
namespace Go.Proofs.Yteghldgopidhhaa
open Go.RowKit
open Lvl

namespace Lvl
mutual
theorem nodes_inst {bs : List Lv} (hbs : ∀ b ∈ bs, nodes b ≤ 64) : ∀ t : Lv, nodes (instF bs t) ≤ 64 * nodes t
  | .mk k n ts => by
    rw [instF]
    by_cases hk : k = 2
    · rw [if_pos hk]
      by_cases hn : n.toNat < bs.length
      · have : bs.getD n.toNat (.mk k n ts) = bs[n.toNat] := by simp [hn]
        rw [this]
        have h1 := hbs _ (List.getElem_mem hn)
        have h2 := nodes_pos (.mk k n ts)
        omega
      · have : bs.getD n.toNat (.mk k n ts) = .mk k n ts := by simp [List.getD, List.getElem?_eq_none (Nat.le_of_not_lt hn)]
        rw [this]
        omega
    · rw [if_neg hk, nodes, nodes]
      have := nodes_instL hbs ts
      omega
theorem nodes_instL {bs : List Lv} (hbs : ∀ b ∈ bs, nodes b ≤ 64) : ∀ ts : List Lv, nodesL (instL bs ts) ≤ 64 * nodesL ts
  | [] => by rw [instL, nodesL]; omega
  | a :: ts => by
    rw [instL, nodesL, nodesL]
    have := nodes_inst hbs a
    have := nodes_instL hbs ts
    omega
end
end Lvl

set_option maxRecDepth 100000 in
set_option maxHeartbeats 4000000 in
theorem grown_up (bs : List Lv) (hbs : ∀ b ∈ bs, nodes b ≤ 64) : ∀ (N : Nat) (t : Lv) (v Vb : Value) (w : World), nodes t ≤ N → nodes t ≤ 1000 → okB (bs.length : Int) t = true → LvV w t v → LvL w Vb bs →
    Calls Try.prog 42 #[v, Vb] w (Ret w (.int .i64 (nodes (instF bs t) : Nat))) := by
  intro N
  induction N with
  | zero => intro t v Vb w h _ _ _ _; have := nodes_pos t; omega
  | succ N ih =>
  intro t v Vb w hN hM hok hv hvb
  obtain ⟨s, rfl, hs⟩ := hv
  cases t with
  | mk k n ts =>
  rw [LvS] at hs
  obtain ⟨A, len, cap, rfl, h1, h2, h2b, h3, h4⟩ := hs
  have IH := Lib.hid ih
  have HVB := Lib.hid hvb
  have HBS := Lib.hid hbs
  have HS := Lib.hid h4
  have HN := Lib.hid h1
  have HNN : Hid (nodesL ts ≤ N ∧ nodesL ts ≤ 1000) := by
    rw [nodes] at hN hM
    have : nodesL ts ≤ N ∧ nodesL ts ≤ 1000 := ⟨by omega, by omega⟩
    exact this
  have HOKT := Lib.hid hok
  clear h4 h1 h3 hN ih hM hvb hbs hok
  show Calls Try.prog 42 #[.agg #[.int .i64 k, .int .i64 n, .slice A len cap], Vb] w (Ret w (.int .i64 (nodes (instF bs (.mk k n ts)) : Nat)))
  by_cases hk2 : k = 2
  · subst hk2
    obtain ⟨hn0, hn1⟩ := okB_par HOKT.out
    obtain ⟨m, rfl⟩ : ∃ m : Nat, n = m := ⟨n.toNat, by omega⟩
    have hm : m < bs.length := by omega
    have hr : instF bs (.mk 2 m ts) = bs[m] := by rw [instF, if_pos rfl]; simp [hm]
    rw [hr]
    have hvb := HVB.out
    unfold LvL at hvb
    rw [LvS] at hvb
    obtain ⟨A', len', cap', rfl, q1, q2, q2b, q3, q4⟩ := hvb
    obtain ⟨b, o, s, rfl, hbs, hc0, hc1, hc2, hls⟩ := lsV_get q4 m hm
    have p1 : (0 : Int) ≤ (m : Int) := by omega
    have p2 : (m : Int) < (len' : Int) := by omega
    have HLS : Hid (LvV w bs[m] (.agg #[.int .i64 (kindOf bs[m]), .int .i64 (numOf bs[m]), s])) := ⟨s, rfl, hls⟩
    have HTN := Lib.hid (HBS.out _ (List.getElem_mem hm))
    have HB := Lib.hid (below_lit w (.cells #[.int .i64 2, .int .i64 m, .slice A len cap] 24))
    generalize hki : kindOf bs[m] = ki at *
    generalize hnu : numOf bs[m] = nu at *
    generalize bs[m] = tb at *
    clear hki hnu hls q4 q1 q3 hn0 hn1 hr HOKT HS HNN IH HN hm HVB HBS
    obtain ⟨R, hR⟩ : ∃ R, nodes tb = R := ⟨_, rfl⟩
    have HR : Hid (min (nodes tb) (64 + 1) = R) := by
      have := HTN.out
      have : min (nodes tb) (64 + 1) = R := by omega
      exact this
    rw [hR]
    clear hR
    go_enter Try.func42, Try.ntmps42
    go_wp2_with fail
    generalize w.alloc (.cells #[.int .i64 2, .int .i64 m, .slice A len cap] 24) = X at *
    refine (levelNodes_is tb _ 64 _ (HLS.out.below HB.out) (by omega) R HR.out).mono ?_
    rintro e wA ⟨rfl, hbA⟩
    have HBA := Lib.hid (HB.out.trans (hbA.mono HB.out.size))
    clear hbA
    go_wp2_with fail
    go_ret
    exact ⟨rfl, HBA.out⟩
  have HR : Hid (nodes (instF bs (.mk k n ts)) = 1 + nodesL (ts.map (instF bs))) := by rw [instF, if_neg hk2, instL_map, nodes]; exact rfl
  have HOK := Lib.hid (okB_args HOKT.out hk2)
  have hkd : (k == 2) = false := by simpa using hk2
  rw [HR.out]
  clear HOKT HR hk2
  go_enter Try.func42, Try.ntmps42
  go_wp2_with fail
  obtain ⟨_, _, hbox⟩ := box_cells w (.int .i64 k) (.int .i64 n) (.slice A len cap) 24
  have HB := Lib.hid (below_lit w (.cells #[.int .i64 k, .int .i64 n, .slice A len cap] 24))
  have hsz : w.heap.size < (w.alloc (.cells #[.int .i64 k, .int .i64 n, .slice A len cap] 24)).heap.size := by simp
  generalize w.alloc (.cells #[.int .i64 k, .int .i64 n, .slice A len cap] 24) = W at *
  have HBX := Lib.hid hbox
  clear hbox
  go_loopw [5, 6] (fun c i wr => ∃ j acc : Nat, j ≤ len ∧ i = .int .i64 j ∧ c = .int .i64 acc ∧ Hid (acc = 1 + nodesL ((ts.map (instF bs)).take j)) ∧ acc ≤ 1 + 64 * nodesL (ts.take j) ∧ Below W.heap.size W wr) (fun _ i _ => len - (intOf i).toNat)
  case atStart => exact ⟨0, 1, Nat.zero_le _, rfl, rfl, by have : 1 = 1 + nodesL ((ts.map (instF bs)).take 0) := (by simp [nodesL]); exact this, by simp [nodesL], Below.refl _ _⟩
  case round =>
    obtain ⟨j, acc, hj, rfl, rfl, hc, ha, hb⟩ := hrel
    have HBW := Lib.hid hb
    have hbox := (hb.cell (p := ⟨w.heap.size, 2, none⟩) hsz).trans HBX.out
    have hsz2 : w.heap.size < wr.heap.size := Nat.lt_of_lt_of_le hsz hb.size
    have HB2 := Lib.hid (HB.out.trans (hb.mono HB.out.size))
    have HSW := Lib.hid (lsV_below HB2.out _ _ _ HS.out)
    have HA := Lib.hid ha
    clear hb ha
    by_cases hlt : j < len
    · have hx1 : j < ts.length := by rw [HN.out]; exact hlt
      have hln : decide ((j : Int) < (len : Int)) = true := by simp; omega
      obtain ⟨b, o, s, rfl, hb, hc0, hc1, hc2, hls⟩ := lsV_get HSW.out j hx1
      have HLS : Hid (LvV wr ts[j] (.agg #[.int .i64 (kindOf ts[j]), .int .i64 (numOf ts[j]), s])) := ⟨s, rfl, hls⟩
      have HTN : Hid (nodes ts[j] ≤ N ∧ nodes ts[j] ≤ 1000) := ⟨Nat.le_trans (nodes_mem (List.getElem_mem hx1)) HNN.out.1, Nat.le_trans (nodes_mem (List.getElem_mem hx1)) HNN.out.2⟩
      have HTO : Hid (okB (bs.length : Int) ts[j] = true) := HOK.out _ (List.getElem_mem hx1)
      have HNT := Lib.hid (nodesL_take hx1)
      have HNM := Lib.hid (nodesL_take (ts := ts.map (instF bs)) (j := j) (by rw [List.length_map]; exact hx1))
      rw [List.getElem_map] at HNM
      have HVW := Lib.hid (HVB.out.below HB2.out)
      have q1 : (0 : Int) ≤ (j : Int) := by omega
      have q2 : (j : Int) < (len : Int) := by omega
      generalize kindOf ts[j] = ki at *
      generalize numOf ts[j] = nu at *
      generalize ts[j] = tj at *
      clear hls
      go_wp2_with fail
      refine (IH.out tj _ _ wr HTN.out.1 HTN.out.2 HTO.out HLS.out HVW.out).mono ?_
      rintro e w2 ⟨rfl, hb2⟩
      have HQ := Lib.hid (nodes_inst HBS.out tj)
      obtain ⟨q, hq⟩ : ∃ q, nodes (instF bs tj) = q := ⟨_, rfl⟩
      rw [hq] at HNM HQ
      rw [hq]
      have HBW2 := Lib.hid (HBW.out.trans (hb2.mono HBW.out.size))
      have HA2 : Hid (acc + q ≤ 1 + 64 * nodesL (ts.take (j + 1))) := by
        have h1 := HA.out
        have h2 := HQ.out
        rw [HNT.out]
        have : acc + q ≤ 1 + 64 * (nodesL (ts.take j) + nodes tj) := by omega
        exact this
      have HC2 : Hid (acc + q = 1 + nodesL ((ts.map (instF bs)).take (j + 1))) := by
        have h1 := hc.out
        rw [HNM.out]
        have : acc + q = 1 + (nodesL ((ts.map (instF bs)).take j) + q) := by omega
        exact this
      have hbig : acc + q ≤ 64001 := by
        have h1 := HA2.out
        have h2 := nodesL_le ts (j + 1)
        have h3 := HNN.out.2
        omega
      clear hb2 hq HNT HNM HQ HTN HLS
      go_wp2_with fail
      go_roundw
      case rel => exact ⟨j + 1, acc + q, by omega, by go_num, by go_num, HC2, HA2.out, HBW2.out⟩
      case measure => simp [intOf]; omega
    · have hln : decide ((j : Int) < (len : Int)) = false := by simp; omega
      have HF : Hid (1 + nodesL (ts.map (instF bs)) = acc) := by
        have h1 := hc.out
        rw [List.take_of_length_le (by rw [List.length_map, HN.out]; omega)] at h1
        exact h1.symm
      go_wp2_with fail
      go_ret
      exact ⟨by rw [HF.out]; rfl, HB2.out⟩
end Go.Proofs.Yteghldgopidhhaa
