import Derived.Test.YtlijdgamobpndaaDoorJ02
import Derived.Test.YtlijdgamobpndaaDoorJ25
import Derived.Test.YtlijdgamobpndaaDoorJ09
import Derived.Test.YtlijdgamobpndaaDoorJ10
import Derived.IntWalk
/-
  The contract of package arena's 'levelBytes': the bytes of levels, in a row of its own.
  Conditions: the levels lie in memory as told by 'LvS', each number in them has room in a byte.
-/
namespace Go.Proofs.YtlijdgamobpndaaDoor
open Go.RowKit
open Lvl
open Trm
namespace Arn
theorem wrap8 {x : Int} (h0 : 0 ≤ x) (h1 : x ≤ 255) : IntKind.u8.wrap x = x := by
  unfold IntKind.wrap
  simp [IntKind.bits, IntKind.signed]
  omega
theorem three_cells' {w : World} {b : Nat} {x0 x1 x2 : Value} {T : TypeId} (h : w.heap[b]? = some (.cells #[x0, x1, x2] T (0, 0))) : w.cell? ⟨b, 0, none⟩ = some x0 ∧ w.cell? ⟨b, 1, none⟩ = some x1 ∧ w.cell? ⟨b, 2, none⟩ = some x2 :=
  ⟨cell_of_row _ _ 0 _ T (0, 0) h, cell_of_row _ _ 1 _ T (0, 0) h, cell_of_row _ _ 2 _ T (0, 0) h⟩
set_option maxRecDepth 100000 in
set_option maxHeartbeats 1000000 in
theorem levelBytes_up : ∀ (N : Nat) (k n : Int) (ls : List Lv) (v : Value) (w : World), nodesL ls ≤ N → N ≤ 100000 → smL ls → LvS w (.mk k n ls) v →
    Calls Tryd.prog 36 #[v] w (OwnRet w.heap.size w (encL ls)) := by
  intro N
  induction N using Nat.strongRecOn with
  | _ N ih =>
  intro k n ls v w hN hM hs hv
  have HIH := Lib.hid ih
  have HN := Lib.hid hN
  have HS := Lib.hid hs
  rw [LvS] at hv
  obtain ⟨A, len, cap, rfl, hlen, hlc, h47, hnil, hls⟩ := hv
  have HLS := Lib.hid hls
  have HL := Lib.hid hlen
  clear ih hN hs hls hlen
  go_enter Tryd.func36, Tryd.ntmps36
  go_wp2_with fail
  go_loopw [3, 5, 8] (fun b _ i wr => ∃ (j M : Nat), j ≤ len ∧ i = .int .i64 j ∧ Hid (wr.ownsRow w.heap.size 5 1 b M ((encL (ls.take j)).map bv)) ∧ Hid (Below w.heap.size w wr)) (fun _ _ i _ => len - (intOf i).toNat)
  case atStart => exact ⟨0, 0, Nat.zero_le _, rfl, by rw [List.take_zero, encL]; exact World.ownsRow_nil _ _ _ _, Below.refl _ _⟩
  case round =>
    obtain ⟨j, M, hj, rfl, HO, HB⟩ := hrel
    have hbase : w.heap.size ≤ wr.heap.size := HB.out.size
    by_cases hlt : j < len
    · have hx1 : j < ls.length := by rw [HL.out]; exact hlt
      obtain ⟨bk0, o, s, rfl, hbs, hc0, hc1, hc2, hlv⟩ := lsV_get HLS.out j hx1
      have hsm := smL_mem HS.out _ (List.getElem_mem hx1)
      have HNJ : Hid (nodes ls[j] ≤ N) := Nat.le_trans (nodes_mem (List.getElem_mem hx1)) HN.out
      have HET := Lib.hid (encL_take hx1)
      have hM9 : M = (encL (ls.take j)).length := (own_len HO.out).symm
      have hM8 : (encL (ls.take j)).length ≤ 3 * N := by
        rw [encL_len]
        have h1 : nodesL (ls.take j) ≤ nodesL ls := by
          have := nodesL_append (ls.take j) (ls.drop j)
          rw [List.take_append_drop] at this
          omega
        have := HN.out
        omega
      generalize ls[j] = tj at *
      obtain ⟨kk, nn, ts⟩ := tj
      have hlv0 := hlv
      rw [LvS] at hlv
      obtain ⟨A2, l2, c2, rfl, hl2, _, _, _, _⟩ := hlv
      have HLV := Lib.hid hlv0
      rw [smV] at hsm
      obtain ⟨⟨g1, g2, g3, g4, g5⟩, g6⟩ := hsm
      have HS6 := Lib.hid g6
      rw [hl2] at g5
      have e1 := wrap8 g1 g2
      have e2 := wrap8 g3 g4
      have e3 := wrap8 (x := (l2 : Int)) (by omega) (by omega)
      have HL2 := Lib.hid hl2
      have b1 := bk_toNat g1 g2
      have b2 := bk_toNat g3 g4
      have b3 := bk_toNat (x := (l2 : Int)) (by omega) (by omega)
      have HBS := Lib.hid (show ([bk kk, bk nn, bk (l2 : Int)].map bv).toArray = #[Value.int .u8 kk, .int .u8 nn, .int .u8 (l2 : Int)] by simp [bv, b1, b2, b3])
      have hc0 := (HB.out.cell (p := ⟨bk0, _, none⟩) hbs).trans hc0
      have hc1 := (HB.out.cell (p := ⟨bk0, _, none⟩) hbs).trans hc1
      have hc2 := (HB.out.cell (p := ⟨bk0, _, none⟩) hbs).trans hc2
      dsimp only [kindOf, numOf] at hc0 hc1
      have hln : decide ((j : Int) < (len : Int)) = true := by simp; omega
      have q1 : (0 : Int) ≤ (j : Int) := by omega
      have q2 : (j : Int) < (len : Int) := by omega
      have hN9 : M + 3 ≤ 140737488355328 := by omega
      have hMN : M ≤ 300000 := by omega
      clear hlv0 g1 g2 g3 g4 g5 g6 b1 b2 b3 hl2 hM8 hM9
      have hq5 := heap_alloc_new wr (.cells #[.int .i64 kk, .int .i64 nn, .slice A2 l2 c2] 63)
      have hz5 : (wr.alloc (.cells #[.int .i64 kk, .int .i64 nn, .slice A2 l2 c2] 63)).heap.size = wr.heap.size + 1 := by simp
      have hb5 := below_lit wr (.cells #[.int .i64 kk, .int .i64 nn, .slice A2 l2 c2] 63)
      have HQ5 := Lib.hid hq5
      have HZ5 := Lib.hid hz5
      have HB5 := Lib.hid hb5
      have hsl5 := bsl_lit (wr.alloc (.cells #[.int .i64 kk, .int .i64 nn, .slice A2 l2 c2] 63)) [bk kk, bk nn, bk (l2 : Int)] 3 rfl _ HBS.out
      rw [hz5] at hsl5
      have HSL5 := Lib.hid hsl5
      have hbs6 : w.heap.size ≤ ((wr.alloc (.cells #[.int .i64 kk, .int .i64 nn, .slice A2 l2 c2] 63)).alloc (.cells #[.int .u8 kk, .int .u8 nn, .int .u8 (l2 : Int)] 5)).heap.size := by simp; omega
      have hN8 : M + [bk kk, bk nn, bk (l2 : Int)].length ≤ 140737488355328 := hN9
      obtain ⟨x0, x1, x2⟩ := three_cells' hq5
      clear hq5 hz5 hb5 hsl5
      go_wp2_with (at_builtin; refine wpList_append_bytes rfl _ _ rfl w.heap.size _ M (encL (ls.take j)) rfl (own_alloc (own_alloc HO.out _) _) _ [bk kk, bk nn, bk (l2 : Int)] rfl HSL5.out hN8 hbs6 ?_)
      intro b6 w6 hown6 hgrow6
      have hb6 := HB5.out.trans ((below_lit (wr.alloc (.cells #[.int .i64 kk, .int .i64 nn, .slice A2 l2 c2] 63)) (.cells #[.int .u8 kk, .int .u8 nn, .int .u8 (l2 : Int)] 5)).mono HB5.out.size)
      have HBW : Hid (Below w.heap.size w w6) := (HB.out.trans (hb6.mono HB.out.size)).grown hgrow6 (Nat.le_trans hbase hb6.size) (fun k hk => own_block HO.out k hk)
      have hq6 := (hgrow6.block wr.heap.size (by simp; omega) (fun e => by have := (own_lt HO.out wr.heap.size e.symm).2; omega)).trans ((heap_alloc_old _ (.cells #[.int .u8 kk, .int .u8 nn, .int .u8 (l2 : Int)] 5) (by rw [HZ5.out]; omega)).trans HQ5.out)
      have HO6 := Lib.hid hown6
      have hbase6 : w.heap.size ≤ w6.heap.size := HBW.out.size
      have hlv6 : LvS w6 (.mk kk nn ts) (.slice A2 l2 c2) := lvS_below HBW.out _ _ HLV.out
      have HLV6 := Lib.hid hlv6
      clear x0 x1 x2 hown6 hgrow6 hb6 hlv6 hc0 hc1 hc2
      obtain ⟨x0, x1, x2⟩ := three_cells' hq6
      clear hq6
      go_wp2_with fail
      have hnt : nodesL ts < N := by have := HNJ.out; rw [nodes] at this; omega
      refine (HIH.out (nodesL ts) hnt kk nn ts _ w6 (Nat.le_refl _) (by omega) HS6.out HLV6.out).mono ?_
      rintro e w7 ⟨v7, M7, rfl, hown7, hb7⟩
      have HB7 := Lib.hid hb7
      have HO7 := Lib.hid hown7
      have hM6 : (encL ts).length ≤ 300000 := by rw [encL_len]; omega
      have HEV : Hid (encL (ls.take (j + 1)) = (encL (ls.take j) ++ [bk kk, bk nn, bk (l2 : Int)]) ++ encL ts) := by
        have : encL (ls.take (j + 1)) = (encL (ls.take j) ++ [bk kk, bk nn, bk (l2 : Int)]) ++ encL ts := by
          rw [HET.out, encV, HL2.out, List.append_assoc]
          rfl
        exact this
      have hsum : M + 3 + (encL ts).length ≤ 140737488355328 := by omega
      have hO67 : w7.ownsRow w.heap.size 5 1 b6 (M + 3) ((encL (ls.take j) ++ [bk kk, bk nn, bk (l2 : Int)]).map bv) := by rw [List.map_append]; exact own_below HO6.out HB7.out
      have HO67 := Lib.hid hO67
      have HSL7 := Lib.hid (bsl_own HO7.out)
      have hbs7 := Nat.le_trans hbase6 HB7.out.size
      clear hO67
      clear hown7 hb7 x0 x1 x2
      go_wp2_with (at_builtin; refine wpList_append_bytes rfl _ _ rfl w.heap.size _ (M + 3) (encL (ls.take j) ++ [bk kk, bk nn, bk (l2 : Int)]) rfl HO67.out _ (encL ts) rfl HSL7.out hsum hbs7 ?_)
      intro b8 w8 hown8 hgrow8
      have HBW8 : Hid (Below w.heap.size w w8) := (HBW.out.trans (HB7.out.mono hbase6)).grown hgrow8 (Nat.le_trans hbase6 HB7.out.size) (fun k hk => own_block HO6.out k hk)
      have HO8 := Lib.hid hown8
      clear hown8 hgrow8
      go_wp2_with fail
      go_roundw
      case rel => exact ⟨j + 1, M + 3 + (encL ts).length, by omega, by go_num, (by rw [HEV.out]; have h9 := HO8.out; simp only [List.map_append, List.map_cons, List.map_nil, List.append_assoc] at h9 ⊢; exact h9), HBW8.out⟩
      case measure => simp [intOf]; omega
    · obtain rfl : j = len := by omega
      have hln : decide ((j : Int) < (j : Int)) = false := by simp
      have htk : ls.take j = ls := List.take_of_length_le (by rw [HL.out]; exact Nat.le_refl _)
      rw [htk] at HO
      go_wp2_with fail
      go_ret
      exact ⟨_, M, rfl, HO.out, HB.out⟩
end Arn
end Go.Proofs.YtlijdgamobpndaaDoor
