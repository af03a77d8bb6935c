import Derived.Test.YtlijdgamobpndaaDoorJ10
import Derived.Test.YtlijdgamobpndaaDoorJ20
/-
  The contracts of the program's function fits$1, and of slices.ContainsFunc over it: is a level not right for so many parameters.
  Conditions: the levels lie in memory as told by 'LsV', and have at most 100000 nodes each.
-/
namespace Go.Proofs.YtlijdgamobpndaaDoor
open Go.RowKit
open Lvl

set_option maxRecDepth 100000 in
set_option maxHeartbeats 1000000 in
theorem twrong_is (t : Lv) (v : Value) (w : World) (hv : LvV w t v) (hm : nodes t ≤ 100000) (nn : Int) (Bn : Nat) (hn : w.cell? ⟨Bn, 0, none⟩ = some (.int .i64 nn)) (b : Bool) (hb : rightB nn t = b) :
    Calls Tryd.prog 45 #[v, .pointer (some ⟨Bn, 0, none⟩)] w (Ret w (.bool (!b))) := by
  obtain ⟨s, rfl, hs⟩ := hv
  have HVT := Lib.hid (show LvV w t _ from ⟨s, rfl, hs⟩)
  have HR := Lib.hid hb
  have HM := Lib.hid hm
  have hlt : Bn < w.heap.size := World.block_lt_of_cell? w ⟨Bn, 0, none⟩ hn
  generalize kindOf t = k at *
  generalize numOf t = n at *
  clear hs hb hm
  have hn2 : (w.alloc (.cells #[.int .i64 k, .int .i64 n, s] 63)).cell? ⟨Bn, 0, none⟩ = some (.int .i64 nn) := ((below_lit w _).cell (p := ⟨Bn, 0, none⟩) hlt).trans hn
  clear hlt hn
  go_enter Tryd.func45, Tryd.ntmps45
  go_wp2_with fail
  have HB := Lib.hid (below_lit w (.cells #[.int .i64 k, .int .i64 n, s] 63))
  generalize w.alloc (.cells #[.int .i64 k, .int .i64 n, s] 63) = W at *
  refine (right_any t _ nn W (HVT.out.below HB.out) HM.out b HR.out).mono ?_
  rintro e w2 ⟨rfl, hb⟩
  have HB2 := Lib.hid (HB.out.trans (hb.mono HB.out.size))
  clear hb
  go_wp2_with fail
  go_ret
  exact ⟨by first | rfl | (cases b <;> rfl), HB2.out⟩

set_option maxRecDepth 100000 in
set_option maxHeartbeats 2000000 in
theorem tindex_is (nn : Int) (Bn : Nat) (bs : List Lv) (A : Option Addr) (len cap : Nat) (w : World) (hl : bs.length = len) (hlc : len ≤ cap) (hl7 : len ≤ 140737488355328) (hs : LsV w A 0 bs) (hm : ∀ b ∈ bs, nodes b ≤ 100000) (hn : w.cell? ⟨Bn, 0, none⟩ = some (.int .i64 nn)) :
    Calls Tryd.prog 59 #[.slice A len cap, .func (.func 45) #[] #[.pointer (some ⟨Bn, 0, none⟩)]] w (fun e w' => ∃ r : Int, e = .returned (.int .i64 r) ∧ (-1 ≤ r ∧ r < 140737488355328) ∧ decide (0 ≤ r) = !(bs.all (rightB nn)) ∧ Below w.heap.size w w') := by
  have HS := Lib.hid hs
  have HN := Lib.hid hl
  have HM := Lib.hid hm
  have HNN := Lib.hid hn
  have HLT := Lib.hid (show Bn < w.heap.size from World.block_lt_of_cell? w ⟨Bn, 0, none⟩ hn)
  clear hs hl hm hn
  go_enter Tryd.func59, Tryd.ntmps59
  go_wp2_with fail
  go_loopw [8] (fun i wr => ∃ j : Nat, j ≤ len ∧ i = .int .i64 j ∧ Hid ((bs.take j).all (rightB nn) = true) ∧ Below w.heap.size w wr) (fun i _ => len - (intOf i).toNat)
  case atStart => exact ⟨0, Nat.zero_le _, rfl, by have : (bs.take 0).all (rightB nn) = true := (by simp); exact this, Below.refl _ _⟩
  case round =>
    obtain ⟨j, hj, rfl, hal, hb⟩ := hrel
    have HBW := Lib.hid hb
    have HSW := Lib.hid (lsV_below hb _ _ _ HS.out)
    clear hb
    by_cases hlt : j < len
    · have hx1 : j < bs.length := by rw [HN.out]; exact hlt
      have hln : decide ((j : Int) < (len : Int)) = true := by simp; omega
      obtain ⟨b, o, s, rfl, hbs, hc0, hc1, hc2, hls⟩ := lsV_get HSW.out j hx1
      have HLS : Hid (LvV wr bs[j] (.agg #[.int .i64 (kindOf bs[j]), .int .i64 (numOf bs[j]), s])) := ⟨_, rfl, hls⟩
      have HTK := Lib.hid (show bs.take (j + 1) = bs.take j ++ [bs[j]] by rw [List.take_add_one, List.getElem?_eq_getElem hx1]; rfl)
      have HME := Lib.hid (show bs[j] ∈ bs from List.getElem_mem hx1)
      have q1 : (0 : Int) ≤ (j : Int) := by omega
      have q2 : (j : Int) < (len : Int) := by omega
      generalize kindOf bs[j] = ki at *
      generalize numOf bs[j] = nu at *
      generalize bs[j] = tj at *
      obtain ⟨r, hr⟩ : ∃ r, rightB nn tj = r := ⟨_, rfl⟩
      have HR := Lib.hid hr
      clear hls hr
      go_wp2_with fail
      refine (twrong_is tj _ wr HLS.out (HM.out _ HME.out) nn Bn ((HBW.out.cell (p := ⟨Bn, 0, none⟩) HLT.out).trans HNN.out) r HR.out).mono ?_
      rintro e w2 ⟨rfl, hb2⟩
      have HB2 := Lib.hid (HBW.out.trans (hb2.mono HBW.out.size))
      clear hb2 hc0 hc1 hc2
      cases r
      · have HF : Hid (bs.all (rightB nn) = false) := by
          have : bs.all (rightB nn) = false := by
            rw [List.all_eq_false]
            exact ⟨tj, HME.out, by rw [HR.out]; simp⟩
          exact this
        go_wp2_with fail
        go_ret
        exact ⟨(j : Int), rfl, ⟨by omega, by omega⟩, by rw [HF.out]; simp, HB2.out⟩
      · have HAL : Hid ((bs.take (j + 1)).all (rightB nn) = true) := by
          have : (bs.take (j + 1)).all (rightB nn) = true := by rw [HTK.out, List.all_append, hal.out, List.all_cons, HR.out]; rfl
          exact this
        go_wp2_with fail
        go_roundw
        case rel => exact ⟨j + 1, by omega, by go_num, HAL, HB2.out⟩
        case measure => simp [intOf]; omega
    · obtain rfl : j = len := by omega
      have hln : decide ((j : Int) < (j : Int)) = false := by simp
      have HF : Hid (bs.all (rightB nn) = true) := by
        have := hal.out
        rw [List.take_of_length_le (by rw [HN.out]; exact Nat.le_refl _)] at this
        exact this
      go_wp2_with fail
      go_ret
      exact ⟨-1, rfl, ⟨by omega, by omega⟩, by rw [HF.out]; rfl, HBW.out⟩
set_option maxRecDepth 100000 in
set_option maxHeartbeats 1000000 in
theorem tcontains_is (nn : Int) (Bn : Nat) (bs : List Lv) (A : Option Addr) (len cap : Nat) (w : World) (hl : bs.length = len) (hlc : len ≤ cap) (hl7 : len ≤ 140737488355328) (hs : LsV w A 0 bs) (hm : ∀ b ∈ bs, nodes b ≤ 100000) (hn : w.cell? ⟨Bn, 0, none⟩ = some (.int .i64 nn)) (b : Bool) (hb : bs.all (rightB nn) = b) :
    Calls Tryd.prog 47 #[.slice A len cap, .func (.func 45) #[] #[.pointer (some ⟨Bn, 0, none⟩)]] w (Ret w (.bool (!b))) := by
  have CI := Lib.hid (tindex_is nn Bn bs A len cap w hl hlc hl7 hs hm hn)
  rw [hb] at CI
  clear hl hs hm hn hb
  go_enter Tryd.func47, Tryd.ntmps47
  go_wp2_with fail
  refine CI.out.mono ?_
  rintro e w9 ⟨r, rfl, ⟨h1, h2⟩, h3, hb⟩
  have HB9 := Lib.hid hb
  clear hb
  go_wp2_with fail
  go_ret
  exact ⟨by first | rfl | (rw [h3]), HB9.out⟩

end Go.Proofs.YtlijdgamobpndaaDoor
/-
  The contract of the program's function fits: is a node, its arguments aside, one of those that there are.
  Conditions: its levels lie in memory as told by 'LvS', and have at most 100000 nodes together; name.Right's contract at its name.
-/
namespace Go.Proofs.YtlijdgamobpndaaDoor
open Go.RowKit
open Lvl
namespace Trm

theorem isEmpty_yes {m : ByteArray} (h : m.size = 0) : m.toList.isEmpty = true := by
  rw [ByteArray.toList_eq]
  have : m.data.toList.length = 0 := h
  cases hh : m.data.toList with
  | nil => rfl
  | cons a l => rw [hh] at this; simp at this
theorem isEmpty_no {m : ByteArray} (h : ¬ m.size = 0) : m.toList.isEmpty = false := by
  rw [ByteArray.toList_eq]
  have : ¬ m.data.toList.length = 0 := h
  cases hh : m.data.toList with
  | nil => rw [hh] at this; simp at this
  | cons a l => rfl

set_option maxRecDepth 100000 in
set_option maxHeartbeats 8000000 in
theorem fits_is (kd n : Int) (m : ByteArray) (ls : List Lv) (la : Option Addr) (ll lc : Nat) (sa : Option Addr) (sl sc : Nat) (nn kk : Int) (w : World) (rn : Bool)
    (hls : LvS w (.mk 0 0 ls) (.slice la ll lc)) (hm : nodesL ls ≤ 100000) (CN : Hid (∀ w', Below w.heap.size w w' → Calls Tryd.prog 48 #[.string m] w' (Ret w' (.bool rn)))) (b : Bool) (hb : shape (fun _ => rn) (rightB nn) kd n m ls sl kk = b) :
    Calls Tryd.prog 35 #[.agg #[.int .i64 kd, .int .i64 n, .string m, .slice la ll lc, .slice sa sl sc], .int .i64 nn, .int .i64 kk] w (Ret w (.bool b)) := by
  rw [LvS] at hls
  obtain ⟨A, len, cap, e9, h1, h2, h2b, h3, h4⟩ := hls
  cases e9
  have HV := Lib.hid hb
  obtain ⟨ra, hra⟩ : ∃ r, ls.all (rightB nn) = r := ⟨_, rfl⟩
  have HRA := Lib.hid hra
  have HLL := Lib.hid h1
  have HM : Hid (∀ a ∈ ls, nodes a ≤ 100000) := by
    have : ∀ a ∈ ls, nodes a ≤ 100000 := fun a ha => Nat.le_trans (nodes_mem ha) hm
    exact this
  have b2 := below_lit w (.cells #[.int .i64 kd, .int .i64 n, .string m, .slice la ll lc, .slice sa sl sc] 25)
  have b3 := b2.trans ((below_lit (w.alloc (.cells #[.int .i64 kd, .int .i64 n, .string m, .slice la ll lc, .slice sa sl sc] 25)) (.cells #[.int .i64 nn] 3)).mono b2.size)
  have z1 : (w.alloc (.cells #[.int .i64 kd, .int .i64 n, .string m, .slice la ll lc, .slice sa sl sc] 25)).heap.size = w.heap.size + 1 := by simp
  have z2 : ((w.alloc (.cells #[.int .i64 kd, .int .i64 n, .string m, .slice la ll lc, .slice sa sl sc] 25)).alloc (.cells #[.int .i64 nn] 3)).heap.size = w.heap.size + 1 + 1 := by simp
  have r1 := heap_alloc_new w (.cells #[.int .i64 kd, .int .i64 n, .string m, .slice la ll lc, .slice sa sl sc] 25)
  have r1' := (heap_alloc_old (w.alloc (.cells #[.int .i64 kd, .int .i64 n, .string m, .slice la ll lc, .slice sa sl sc] 25)) (.cells #[.int .i64 nn] 3) (r := w.heap.size) (by simp)).trans r1
  have r2 := heap_alloc_new (w.alloc (.cells #[.int .i64 kd, .int .i64 n, .string m, .slice la ll lc, .slice sa sl sc] 25)) (.cells #[.int .i64 nn] 3)
  rw [z1] at r2
  have r3 := cell_of_row _ _ 0 _ 3 (0, 0) r2
  have HC := Lib.hid (tcontains_is nn (w.heap.size + 1) ls la ll lc ((w.alloc (.cells #[.int .i64 kd, .int .i64 n, .string m, .slice la ll lc, .slice sa sl sc] 25)).alloc (.cells #[.int .i64 nn] 3)) h1 h2 h2b (lsV_below b3 _ _ _ h4) HM.out r3 ra hra)
  have HB3 := Lib.hid b3
  have HZ2 := Lib.hid z2
  have HR1 := Lib.hid r1'
  clear b2 b3 z1 z2 r1 r1' r2 r3 h1 h3 h4 hm hb hra
  go_enter Tryd.func35, Tryd.ntmps35
  go_wp2_with fail
  generalize (w.alloc (.cells #[.int .i64 kd, .int .i64 n, .string m, .slice la ll lc, .slice sa sl sc] 25)).alloc (.cells #[.int .i64 nn] 3) = W2 at *
  refine HC.out.mono ?_
  rintro e w9 ⟨rfl, hb9⟩
  have HB9 := Lib.hid (HB3.out.trans (hb9.mono HB3.out.size))
  have hz9 : w.heap.size < w9.heap.size := by have := hb9.size; have := HZ2.out; omega
  obtain ⟨c0, c1, c2, c3, c4⟩ := five_cells ((hb9.block w.heap.size (by rw [HZ2.out]; omega)).trans HR1.out)
  have hlen := HLL.out
  have hall := HRA.out
  clear hb9 HC HB3 HR1
  cases ra
  · have HF : Hid (b = false) := by
      have : b = false := by rw [← HV.out]; simp [shape, hall]
      exact this
    go_wp2_with fail
    go_ret
    exact ⟨by rw [HF.out]; rfl, HB9.out⟩
  · by_cases k1 : kd = 1
    · subst k1
      by_cases q5 : 0 ≤ n
      · have h0 : decide ((0 : Int) ≤ n) = true := by simp; omega
        by_cases q4 : n < kk
        · have h1 : decide (n < kk) = true := by simp; omega
          by_cases q3 : m.size = 0
          · have hnm : m.toList.isEmpty = true := isEmpty_yes q3
            by_cases q2 : ll = 0
            · have hll : ((ll : Int) == 0) = true := by simp; omega
              by_cases q1 : sl = 0
              · have hsl : ((sl : Int) == 0) = true := by simp; omega
                have HF : Hid (b = true) := by
                  have : b = true := by rw [← HV.out]; simp [shape, *]
                  exact this
                go_wp2_with fail
                go_quiet (fail)
                go_wp2_with fail
                go_ret
                exact ⟨by rw [HF.out]; rfl, HB9.out.trans ((quietBelow _ _).mono HB9.out.size)⟩
              · have hsl : ((sl : Int) == 0) = false := by simp; omega
                have HF : Hid (b = false) := by
                  have : b = false := by rw [← HV.out]; simp [shape, *]
                  exact this
                go_wp2_with fail
                go_quiet (fail)
                go_wp2_with fail
                go_ret
                exact ⟨by rw [HF.out]; rfl, HB9.out.trans ((quietBelow _ _).mono HB9.out.size)⟩
            · have hll : ((ll : Int) == 0) = false := by simp; omega
              have HF : Hid (b = false) := by
                have : b = false := by rw [← HV.out]; simp [shape, *]
                exact this
              go_wp2_with fail
              go_quiet (fail)
              go_wp2_with fail
              go_ret
              exact ⟨by rw [HF.out]; rfl, HB9.out.trans ((quietBelow _ _).mono HB9.out.size)⟩
          · have hnm : m.toList.isEmpty = false := isEmpty_no q3
            have HF : Hid (b = false) := by
              have : b = false := by rw [← HV.out]; simp [shape, *]
              exact this
            go_wp2_with fail
            go_quiet (fail)
            go_wp2_with fail
            go_ret
            exact ⟨by rw [HF.out]; rfl, HB9.out.trans ((quietBelow _ _).mono HB9.out.size)⟩
        · have h1 : decide (n < kk) = false := by simp; omega
          have HF : Hid (b = false) := by
            have : b = false := by rw [← HV.out]; simp [shape, *]
            exact this
          go_wp2_with fail
          go_quiet (fail)
          go_wp2_with fail
          go_ret
          exact ⟨by rw [HF.out]; rfl, HB9.out.trans ((quietBelow _ _).mono HB9.out.size)⟩
      · have h0 : decide ((0 : Int) ≤ n) = false := by simp; omega
        have HF : Hid (b = false) := by
          have : b = false := by rw [← HV.out]; simp [shape, *]
          exact this
        go_wp2_with fail
        go_quiet (fail)
        go_wp2_with fail
        go_ret
        exact ⟨by rw [HF.out]; rfl, HB9.out.trans ((quietBelow _ _).mono HB9.out.size)⟩
    · by_cases k2 : kd = 2
      · subst k2
        by_cases q4 : n = 0
        · have hn0 : (n == 0) = true := by simp; omega
          by_cases q3 : m.size = 0
          · have hnm : m.toList.isEmpty = true := isEmpty_yes q3
            by_cases q2 : ll = 1
            · have hll : ((ll : Int) == 1) = true := by simp; omega
              by_cases q1 : sl = 0
              · have hsl : ((sl : Int) == 0) = true := by simp; omega
                have HF : Hid (b = true) := by
                  have : b = true := by rw [← HV.out]; simp [shape, *]
                  exact this
                go_wp2_with fail
                go_quiet (fail)
                go_wp2_with fail
                go_ret
                exact ⟨by rw [HF.out]; rfl, HB9.out.trans ((quietBelow _ _).mono HB9.out.size)⟩
              · have hsl : ((sl : Int) == 0) = false := by simp; omega
                have HF : Hid (b = false) := by
                  have : b = false := by rw [← HV.out]; simp [shape, *]
                  exact this
                go_wp2_with fail
                go_quiet (fail)
                go_wp2_with fail
                go_ret
                exact ⟨by rw [HF.out]; rfl, HB9.out.trans ((quietBelow _ _).mono HB9.out.size)⟩
            · have hll : ((ll : Int) == 1) = false := by simp; omega
              have HF : Hid (b = false) := by
                have : b = false := by rw [← HV.out]; simp [shape, *]
                exact this
              go_wp2_with fail
              go_quiet (fail)
              go_wp2_with fail
              go_ret
              exact ⟨by rw [HF.out]; rfl, HB9.out.trans ((quietBelow _ _).mono HB9.out.size)⟩
          · have hnm : m.toList.isEmpty = false := isEmpty_no q3
            have HF : Hid (b = false) := by
              have : b = false := by rw [← HV.out]; simp [shape, *]
              exact this
            go_wp2_with fail
            go_quiet (fail)
            go_wp2_with fail
            go_ret
            exact ⟨by rw [HF.out]; rfl, HB9.out.trans ((quietBelow _ _).mono HB9.out.size)⟩
        · have hn0 : (n == 0) = false := by simp; omega
          have HF : Hid (b = false) := by
            have : b = false := by rw [← HV.out]; simp [shape, *]
            exact this
          go_wp2_with fail
          go_quiet (fail)
          go_wp2_with fail
          go_ret
          exact ⟨by rw [HF.out]; rfl, HB9.out.trans ((quietBelow _ _).mono HB9.out.size)⟩
      · by_cases k3 : kd = 3
        · subst k3
          by_cases q9 : n = 0
          · have hn0 : (n == 0) = true := by simp; omega
            go_wp2_with fail
            go_quiet (fail)
            go_wp2_with fail
            refine (CN.out _ (HB9.out.trans ((quietBelow _ _).mono HB9.out.size))).mono ?_
            rintro e w8 ⟨rfl, hb8⟩
            have HB8 := Lib.hid (HB9.out.trans (((quietBelow _ _).trans hb8).mono HB9.out.size))
            clear hb8
            cases rn
            · have HF : Hid (b = false) := by
                have : b = false := by rw [← HV.out]; simp [shape, *]
                exact this
              go_wp2_with fail
              go_ret
              exact ⟨by rw [HF.out]; rfl, HB8.out⟩
            · by_cases q2 : ll ≤ 4
              · have hll : decide ((ll : Int) ≤ 4) = true := by simp; omega
                by_cases q1 : sl = 0
                · have hsl : ((sl : Int) == 0) = true := by simp; omega
                  have HF : Hid (b = true) := by
                    have : b = true := by rw [← HV.out]; simp [shape, *]
                    exact this
                  go_wp2_with fail
                  go_ret
                  exact ⟨by rw [HF.out]; rfl, HB8.out⟩
                · have hsl : ((sl : Int) == 0) = false := by simp; omega
                  have HF : Hid (b = false) := by
                    have : b = false := by rw [← HV.out]; simp [shape, *]
                    exact this
                  go_wp2_with fail
                  go_ret
                  exact ⟨by rw [HF.out]; rfl, HB8.out⟩
              · have hll : decide ((ll : Int) ≤ 4) = false := by simp; omega
                have HF : Hid (b = false) := by
                  have : b = false := by rw [← HV.out]; simp [shape, *]
                  exact this
                go_wp2_with fail
                go_ret
                exact ⟨by rw [HF.out]; rfl, HB8.out⟩
          · have hn0 : (n == 0) = false := by simp; omega
            have HF : Hid (b = false) := by
              have : b = false := by rw [← HV.out]; simp [shape, *]
              exact this
            go_wp2_with fail
            go_quiet (fail)
            go_wp2_with fail
            go_ret
            exact ⟨by rw [HF.out]; rfl, HB9.out.trans ((quietBelow _ _).mono HB9.out.size)⟩
        · by_cases k4 : kd = 4
          · subst k4
            by_cases q4 : n = 0
            · have hn0 : (n == 0) = true := by simp; omega
              by_cases q3 : m.size = 0
              · have hnm : m.toList.isEmpty = true := isEmpty_yes q3
                by_cases q2 : ll = 0
                · have hll : ((ll : Int) == 0) = true := by simp; omega
                  by_cases q1 : sl = 2
                  · have hsl : ((sl : Int) == 2) = true := by simp; omega
                    have HF : Hid (b = true) := by
                      have : b = true := by rw [← HV.out]; simp [shape, *]
                      exact this
                    go_wp2_with fail
                    go_quiet (fail)
                    go_wp2_with fail
                    go_ret
                    exact ⟨by rw [HF.out]; rfl, HB9.out.trans ((quietBelow _ _).mono HB9.out.size)⟩
                  · have hsl : ((sl : Int) == 2) = false := by simp; omega
                    have HF : Hid (b = false) := by
                      have : b = false := by rw [← HV.out]; simp [shape, *]
                      exact this
                    go_wp2_with fail
                    go_quiet (fail)
                    go_wp2_with fail
                    go_ret
                    exact ⟨by rw [HF.out]; rfl, HB9.out.trans ((quietBelow _ _).mono HB9.out.size)⟩
                · have hll : ((ll : Int) == 0) = false := by simp; omega
                  have HF : Hid (b = false) := by
                    have : b = false := by rw [← HV.out]; simp [shape, *]
                    exact this
                  go_wp2_with fail
                  go_quiet (fail)
                  go_wp2_with fail
                  go_ret
                  exact ⟨by rw [HF.out]; rfl, HB9.out.trans ((quietBelow _ _).mono HB9.out.size)⟩
              · have hnm : m.toList.isEmpty = false := isEmpty_no q3
                have HF : Hid (b = false) := by
                  have : b = false := by rw [← HV.out]; simp [shape, *]
                  exact this
                go_wp2_with fail
                go_quiet (fail)
                go_wp2_with fail
                go_ret
                exact ⟨by rw [HF.out]; rfl, HB9.out.trans ((quietBelow _ _).mono HB9.out.size)⟩
            · have hn0 : (n == 0) = false := by simp; omega
              have HF : Hid (b = false) := by
                have : b = false := by rw [← HV.out]; simp [shape, *]
                exact this
              go_wp2_with fail
              go_quiet (fail)
              go_wp2_with fail
              go_ret
              exact ⟨by rw [HF.out]; rfl, HB9.out.trans ((quietBelow _ _).mono HB9.out.size)⟩
          · by_cases k5 : kd = 5
            · subst k5
              by_cases q4 : n = 0
              · have hn0 : (n == 0) = true := by simp; omega
                by_cases q3 : m.size = 0
                · have hnm : m.toList.isEmpty = true := isEmpty_yes q3
                  by_cases q2 : ll = 0
                  · have hll : ((ll : Int) == 0) = true := by simp; omega
                    by_cases q1 : sl = 2
                    · have hsl : ((sl : Int) == 2) = true := by simp; omega
                      have HF : Hid (b = true) := by
                        have : b = true := by rw [← HV.out]; simp [shape, *]
                        exact this
                      go_wp2_with fail
                      go_quiet (fail)
                      go_wp2_with fail
                      go_ret
                      exact ⟨by rw [HF.out]; rfl, HB9.out.trans ((quietBelow _ _).mono HB9.out.size)⟩
                    · have hsl : ((sl : Int) == 2) = false := by simp; omega
                      have HF : Hid (b = false) := by
                        have : b = false := by rw [← HV.out]; simp [shape, *]
                        exact this
                      go_wp2_with fail
                      go_quiet (fail)
                      go_wp2_with fail
                      go_ret
                      exact ⟨by rw [HF.out]; rfl, HB9.out.trans ((quietBelow _ _).mono HB9.out.size)⟩
                  · have hll : ((ll : Int) == 0) = false := by simp; omega
                    have HF : Hid (b = false) := by
                      have : b = false := by rw [← HV.out]; simp [shape, *]
                      exact this
                    go_wp2_with fail
                    go_quiet (fail)
                    go_wp2_with fail
                    go_ret
                    exact ⟨by rw [HF.out]; rfl, HB9.out.trans ((quietBelow _ _).mono HB9.out.size)⟩
                · have hnm : m.toList.isEmpty = false := isEmpty_no q3
                  have HF : Hid (b = false) := by
                    have : b = false := by rw [← HV.out]; simp [shape, *]
                    exact this
                  go_wp2_with fail
                  go_quiet (fail)
                  go_wp2_with fail
                  go_ret
                  exact ⟨by rw [HF.out]; rfl, HB9.out.trans ((quietBelow _ _).mono HB9.out.size)⟩
              · have hn0 : (n == 0) = false := by simp; omega
                have HF : Hid (b = false) := by
                  have : b = false := by rw [← HV.out]; simp [shape, *]
                  exact this
                go_wp2_with fail
                go_quiet (fail)
                go_wp2_with fail
                go_ret
                exact ⟨by rw [HF.out]; rfl, HB9.out.trans ((quietBelow _ _).mono HB9.out.size)⟩
            · by_cases k6 : kd = 6
              · subst k6
                by_cases q4 : n = 0
                · have hn0 : (n == 0) = true := by simp; omega
                  by_cases q3 : m.size = 0
                  · have hnm : m.toList.isEmpty = true := isEmpty_yes q3
                    by_cases q2 : ll = 0
                    · have hll : ((ll : Int) == 0) = true := by simp; omega
                      by_cases q1 : sl = 2
                      · have hsl : ((sl : Int) == 2) = true := by simp; omega
                        have HF : Hid (b = true) := by
                          have : b = true := by rw [← HV.out]; simp [shape, *]
                          exact this
                        go_wp2_with fail
                        go_quiet (fail)
                        go_wp2_with fail
                        go_ret
                        exact ⟨by rw [HF.out]; rfl, HB9.out.trans ((quietBelow _ _).mono HB9.out.size)⟩
                      · have hsl : ((sl : Int) == 2) = false := by simp; omega
                        have HF : Hid (b = false) := by
                          have : b = false := by rw [← HV.out]; simp [shape, *]
                          exact this
                        go_wp2_with fail
                        go_quiet (fail)
                        go_wp2_with fail
                        go_ret
                        exact ⟨by rw [HF.out]; rfl, HB9.out.trans ((quietBelow _ _).mono HB9.out.size)⟩
                    · have hll : ((ll : Int) == 0) = false := by simp; omega
                      have HF : Hid (b = false) := by
                        have : b = false := by rw [← HV.out]; simp [shape, *]
                        exact this
                      go_wp2_with fail
                      go_quiet (fail)
                      go_wp2_with fail
                      go_ret
                      exact ⟨by rw [HF.out]; rfl, HB9.out.trans ((quietBelow _ _).mono HB9.out.size)⟩
                  · have hnm : m.toList.isEmpty = false := isEmpty_no q3
                    have HF : Hid (b = false) := by
                      have : b = false := by rw [← HV.out]; simp [shape, *]
                      exact this
                    go_wp2_with fail
                    go_quiet (fail)
                    go_wp2_with fail
                    go_ret
                    exact ⟨by rw [HF.out]; rfl, HB9.out.trans ((quietBelow _ _).mono HB9.out.size)⟩
                · have hn0 : (n == 0) = false := by simp; omega
                  have HF : Hid (b = false) := by
                    have : b = false := by rw [← HV.out]; simp [shape, *]
                    exact this
                  go_wp2_with fail
                  go_quiet (fail)
                  go_wp2_with fail
                  go_ret
                  exact ⟨by rw [HF.out]; rfl, HB9.out.trans ((quietBelow _ _).mono HB9.out.size)⟩
              · by_cases k7 : kd = 7
                · subst k7
                  by_cases q4 : n = 0
                  · have hn0 : (n == 0) = true := by simp; omega
                    by_cases q3 : m.size = 0
                    · have hnm : m.toList.isEmpty = true := isEmpty_yes q3
                      by_cases q2 : ll = 0
                      · have hll : ((ll : Int) == 0) = true := by simp; omega
                        by_cases q1 : sl = 3
                        · have hsl : ((sl : Int) == 3) = true := by simp; omega
                          have HF : Hid (b = true) := by
                            have : b = true := by rw [← HV.out]; simp [shape, *]
                            exact this
                          go_wp2_with fail
                          go_quiet (fail)
                          go_wp2_with fail
                          go_ret
                          exact ⟨by rw [HF.out]; rfl, HB9.out.trans ((quietBelow _ _).mono HB9.out.size)⟩
                        · have hsl : ((sl : Int) == 3) = false := by simp; omega
                          have HF : Hid (b = false) := by
                            have : b = false := by rw [← HV.out]; simp [shape, *]
                            exact this
                          go_wp2_with fail
                          go_quiet (fail)
                          go_wp2_with fail
                          go_ret
                          exact ⟨by rw [HF.out]; rfl, HB9.out.trans ((quietBelow _ _).mono HB9.out.size)⟩
                      · have hll : ((ll : Int) == 0) = false := by simp; omega
                        have HF : Hid (b = false) := by
                          have : b = false := by rw [← HV.out]; simp [shape, *]
                          exact this
                        go_wp2_with fail
                        go_quiet (fail)
                        go_wp2_with fail
                        go_ret
                        exact ⟨by rw [HF.out]; rfl, HB9.out.trans ((quietBelow _ _).mono HB9.out.size)⟩
                    · have hnm : m.toList.isEmpty = false := isEmpty_no q3
                      have HF : Hid (b = false) := by
                        have : b = false := by rw [← HV.out]; simp [shape, *]
                        exact this
                      go_wp2_with fail
                      go_quiet (fail)
                      go_wp2_with fail
                      go_ret
                      exact ⟨by rw [HF.out]; rfl, HB9.out.trans ((quietBelow _ _).mono HB9.out.size)⟩
                  · have hn0 : (n == 0) = false := by simp; omega
                    have HF : Hid (b = false) := by
                      have : b = false := by rw [← HV.out]; simp [shape, *]
                      exact this
                    go_wp2_with fail
                    go_quiet (fail)
                    go_wp2_with fail
                    go_ret
                    exact ⟨by rw [HF.out]; rfl, HB9.out.trans ((quietBelow _ _).mono HB9.out.size)⟩
                · have e1 : (kd == 1) = false := by simp; omega
                  have e2 : (kd == 2) = false := by simp; omega
                  have e3 : (kd == 3) = false := by simp; omega
                  have e4 : (kd == 4) = false := by simp; omega
                  have e5 : (kd == 5) = false := by simp; omega
                  have e6 : (kd == 6) = false := by simp; omega
                  have e7 : (kd == 7) = false := by simp; omega
                  have HF : Hid (b = false) := by
                    have : b = false := by rw [← HV.out]; simp [shape, *]
                    exact this
                  go_wp2_with fail
                  go_quiet (fail)
                  go_wp2_with fail
                  go_ret
                  exact ⟨by rw [HF.out]; rfl, HB9.out.trans ((quietBelow _ _).mono HB9.out.size)⟩
end Trm
end Go.Proofs.YtlijdgamobpndaaDoor
/-
  The contract of the reference's grown: how many nodes the level has with others in place of its parameters.
  Conditions: as inst's; the others have at most 64 nodes each.
-/
namespace Go.Proofs.YtlijdgamobpndaaDoor
open Go.RowKit
open Lvl

namespace Lvl
mutual
theorem nodes_inst {bs : List Lv} (hbs : ∀ b ∈ bs, nodes b ≤ 64) : ∀ t : Lv, nodes (instF bs t) ≤ 64 * nodes t
  | .mk k n ts => by
    rw [instF]
    by_cases hk : k = 2
    · rw [if_pos hk]
      by_cases hn : n.toNat < bs.length
      · have : bs.getD n.toNat (.mk k n ts) = bs[n.toNat] := by simp [hn]
        rw [this]
        have h1 := hbs _ (List.getElem_mem hn)
        have h2 := nodes_pos (.mk k n ts)
        omega
      · have : bs.getD n.toNat (.mk k n ts) = .mk k n ts := by simp [List.getD, List.getElem?_eq_none (Nat.le_of_not_lt hn)]
        rw [this]
        omega
    · rw [if_neg hk, nodes, nodes]
      have := nodes_instL hbs ts
      omega
theorem nodes_instL {bs : List Lv} (hbs : ∀ b ∈ bs, nodes b ≤ 64) : ∀ ts : List Lv, nodesL (instL bs ts) ≤ 64 * nodesL ts
  | [] => by rw [instL, nodesL]; omega
  | a :: ts => by
    rw [instL, nodesL, nodesL]
    have := nodes_inst hbs a
    have := nodes_instL hbs ts
    omega
end
end Lvl

end Go.Proofs.YtlijdgamobpndaaDoor
/-
  The contract of the reference's Nodes: how many nodes, if not too many.
  Conditions: the term lies in memory as told by 'TmV'.
-/
namespace Go.Proofs.YtlijdgamobpndaaDoor
open Go.RowKit
open Lvl
namespace Trm
set_option maxRecDepth 100000 in
set_option maxHeartbeats 2000000 in
theorem refNodes_up (most : Nat) (hm : most ≤ 100000) : ∀ (N : Nat) (t : Tm) (v : Value) (w : World), tnodes t ≤ N → TmV w t v →
    Calls Tryd.prog 17 #[v, .int .i64 most] w (Ret w (.int .i64 (min (tnodes t) (most + 1) : Nat))) := by
  intro N
  induction N with
  | zero => intro t v w h _; have := tnodes_pos t; omega
  | succ N ih =>
  intro t v w hN hv
  obtain ⟨l, s, rfl, ht⟩ := hv
  obtain ⟨⟨la, ll, lc, rfl⟩, sa, sl, sc, rfl⟩ := tmP_slices ht
  cases t with
  | mk k n m ls ts =>
  rw [TmP] at ht
  obtain ⟨hlv, A', len', cap', e9, hlen, hlc', hl47, hnone, hts⟩ := ht
  cases e9
  have h2 := lvS_of _ _ hlv
  rw [LvS] at h2
  obtain ⟨C, lcn, cc, e8, hll, _, hll47, _, hls⟩ := h2
  cases e8
  rw [tnodes] at hN
  have IH := Lib.hid ih
  have HTS := Lib.hid hts
  have HLS := Lib.hid hls
  have HLEN := Lib.hid hlen
  have HLL := Lib.hid hll
  have HTN : Hid (tnodesL ts ≤ N) := by
    have : tnodesL ts ≤ N := by omega
    exact this
  obtain ⟨R, hR⟩ : ∃ R, min (tnodes (.mk k n m ls ts)) (most + 1) = R := ⟨_, rfl⟩
  rw [hR]
  rw [tnodes] at hR
  have HR := Lib.hid hR
  show Calls _ _ #[.agg #[.int .i64 k, .int .i64 n, .string m, .slice la ll lc, .slice sa sl sc], .int .i64 most] w _
  clear ih hts hls hlen hll hlv hN hR hnone hlc'
  go_enter Tryd.func17, Tryd.ntmps17
  go_wp2_with fail
  have z1 : (w.alloc (.cells #[.int .i64 k, .int .i64 n, .string m, .slice la ll lc, .slice sa sl sc] 25)).heap.size = w.heap.size + 1 := by simp
  have r0 : (w.alloc (.cells #[.int .i64 k, .int .i64 n, .string m, .slice la ll lc, .slice sa sl sc] 25)).heap[w.heap.size]? = some (Obj.cells #[.int .i64 k, .int .i64 n, .string m, .slice la ll lc, .slice sa sl sc] 25 (0, 0)) := by
    have := heap_alloc_new w (.cells #[.int .i64 k, .int .i64 n, .string m, .slice la ll lc, .slice sa sl sc] 25)
    exact this
  have HB := Lib.hid (below_lit w (.cells #[.int .i64 k, .int .i64 n, .string m, .slice la ll lc, .slice sa sl sc] 25))
  have HR0 := Lib.hid (r0)
  clear r0
  try generalize (w.alloc (.cells #[.int .i64 k, .int .i64 n, .string m, .slice la ll lc, .slice sa sl sc] 25)) = W at *
  have HZ := Lib.hid z1
  clear z1
  have hsz1 := HZ.out
  have hw0 : w.heap.size < W.heap.size := by omega
  go_loopw [5, 6] (fun c i wr => ∃ j acc : Nat, j ≤ ll ∧ i = .int .i64 j ∧ c = .int .i64 acc ∧ Hid (RCnt most acc (1 + nodesL (ls.take j))) ∧ acc ≤ 2 + 2 * most ∧ Hid (Below W.heap.size W wr)) (fun _ i _ => ll - (intOf i).toNat)
  case atStart =>
    have h0 : RCnt most 1 (1 + nodesL (ls.take 0)) := by
      rw [List.take_zero, nodesL]
      rfl
    exact ⟨0, 1, Nat.zero_le _, rfl, rfl, h0, by omega, Below.refl _ _⟩
  case round =>
    obtain ⟨j, acc, hj, rfl, rfl, hc, ha, hb⟩ := hrel
    have HBW := hb
    obtain ⟨a0, a1, a2, a3, a4⟩ := five_cells ((hb.out.block w.heap.size hw0).trans HR0.out)
    by_cases hlt : j < ll
    · have hx1 : j < ls.length := by rw [HLL.out]; exact hlt
      have hln : decide ((j : Int) < (ll : Int)) = true := by simp; omega
      by_cases hmo : acc ≤ most
      · have hd : decide ((acc : Int) ≤ (most : Int)) = true := by simp; omega
        obtain ⟨b, o, s, eA, hbs, hc0, hc1, hc2, hls⟩ := lsV_get HLS.out j hx1
        subst eA
        have hBw := HB.out.trans (hb.out.mono HB.out.size)
        have d0 := (hBw.cell (p := ⟨b, _, none⟩) hbs).trans hc0
        have d1 := (hBw.cell (p := ⟨b, _, none⟩) hbs).trans hc1
        have d2 := (hBw.cell (p := ⟨b, _, none⟩) hbs).trans hc2
        obtain ⟨q, hq⟩ : ∃ q, min (nodes ls[j]) (most + 1) = q := ⟨_, rfl⟩
        have HCALL := Lib.hid (levelNodesT_is ls[j] (.agg #[.int .i64 (kindOf ls[j]), .int .i64 (numOf ls[j]), s]) most wr ⟨s, rfl, lvS_below hBw _ _ hls⟩ hm q hq)
        have HNT := Lib.hid (nodesL_take hx1)
        have HC2 : Hid (RCnt most (acc + q) (1 + nodesL (ls.take (j + 1)))) := by
          have h1 := hc.out
          have : RCnt most (acc + q) (1 + nodesL (ls.take (j + 1))) := by
            unfold RCnt at h1 ⊢
            rw [HNT.out, ← hq]
            omega
          exact this
        have hq2 : q ≤ most + 1 := by omega
        have q1 : (0 : Int) ≤ (j : Int) := by omega
        have q2 : (j : Int) < (ll : Int) := by omega
        generalize kindOf ls[j] = ka at *
        generalize numOf ls[j] = na at *
        clear hc0 hc1 hc2 hls hq HNT hBw
        go_wp2_with fail
        refine HCALL.out.mono ?_
        rintro e w2 ⟨rfl, hb2⟩
        have HBW2 := Lib.hid (HBW.out.trans (hb2.mono HBW.out.size))
        clear hb2
        go_wp2_with fail
        go_roundw
        case rel => exact ⟨j + 1, acc + q, by omega, by go_num, by go_num, HC2, by omega, HBW2.out⟩
        case measure => simp [intOf]; omega
      · have hd : decide ((acc : Int) ≤ (most : Int)) = false := by simp; omega
        have HC0 : Hid (RCnt most acc (1 + nodesL ls + tnodesL (ts.take 0))) := by
          have h1 := hc.out
          have h2 := nodesL_le ls j
          have : RCnt most acc (1 + nodesL ls + tnodesL (ts.take 0)) := by
            unfold RCnt at h1 ⊢
            omega
          exact this
        go_wp2_with fail
        generalize wr = Wq at *
        go_loopw [5, 7] (fun c i wr => ∃ j acc : Nat, j ≤ sl ∧ i = .int .i64 j ∧ c = .int .i64 acc ∧ Hid (RCnt most acc (1 + nodesL ls + tnodesL (ts.take j))) ∧ acc ≤ 2 + 4 * most ∧ Hid (Below W.heap.size W wr)) (fun _ i _ => sl - (intOf i).toNat)
        case atStart => exact ⟨0, acc, Nat.zero_le _, rfl, rfl, HC0.out, by omega, HBW.out⟩
        case round =>
          obtain ⟨j, acc, hj, rfl, rfl, hc, ha, hb⟩ := hrel
          have HBW := hb
          obtain ⟨a0, a1, a2, a3, a4⟩ := five_cells ((hb.out.block w.heap.size (by omega)).trans HR0.out)
          by_cases hlt : j < sl
          · have hx1 : j < ts.length := by rw [HLEN.out]; exact hlt
            have hln : decide ((j : Int) < (sl : Int)) = true := by simp; omega
            by_cases hmo : acc ≤ most
            · have hd : decide ((acc : Int) ≤ (most : Int)) = true := by simp; omega
              obtain ⟨bk, o, l1, s1, eA, hbs, _, hc0, hc1, hc2, hc3, hc4, htm⟩ := tsP_get HTS.out j hx1
              subst eA
              obtain ⟨⟨xa, xl, xc, rfl⟩, ya, yl, yc, rfl⟩ := tmP_slices htm
              have hBw := HB.out.trans (hb.out.mono HB.out.size)
              have d0 := (hBw.cell (p := ⟨bk, _, none⟩) hbs).trans hc0
              have d1 := (hBw.cell (p := ⟨bk, _, none⟩) hbs).trans hc1
              have d2 := (hBw.cell (p := ⟨bk, _, none⟩) hbs).trans hc2
              have d3 := (hBw.cell (p := ⟨bk, _, none⟩) hbs).trans hc3
              have d4 := (hBw.cell (p := ⟨bk, _, none⟩) hbs).trans hc4
              have hcall := IH.out ts[j] (tv ts[j] (.slice xa xl xc) (.slice ya yl yc)) wr (Nat.le_trans (tnodes_mem (List.getElem_mem hx1)) HTN.out) ⟨_, _, rfl, tmP_below hBw htm⟩
              have HNT := Lib.hid (tnodesL_take hx1)
              obtain ⟨q, hq⟩ : ∃ q, min (tnodes ts[j]) (most + 1) = q := ⟨_, rfl⟩
              rw [hq] at hcall
              have HCALL := Lib.hid hcall
              dsimp only [tv] at HCALL
              have HC2 : Hid (RCnt most (acc + q) (1 + nodesL ls + tnodesL (ts.take (j + 1)))) := by
                have h1 := hc.out
                have : RCnt most (acc + q) (1 + nodesL ls + tnodesL (ts.take (j + 1))) := by
                  unfold RCnt at h1 ⊢
                  rw [HNT.out, ← hq]
                  omega
                exact this
              have hq2 : q ≤ most + 1 := by omega
              have q1 : (0 : Int) ≤ (j : Int) := by omega
              have q2 : (j : Int) < (sl : Int) := by omega
              generalize tkOf ts[j] = ka at *
              generalize tnOf ts[j] = na at *
              generalize tmOf ts[j] = ma at *
              clear hcall hc0 hc1 hc2 hc3 hc4 htm hq HNT hBw
              go_wp2_with fail
              refine HCALL.out.mono ?_
              rintro e w2 ⟨rfl, hb2⟩
              have HBW2 := Lib.hid (HBW.out.trans (hb2.mono HBW.out.size))
              clear hb2
              go_wp2_with fail
              go_roundw
              case rel => exact ⟨j + 1, acc + q, by omega, by go_num, by go_num, HC2, by omega, HBW2.out⟩
              case measure => simp [intOf]; omega
            · have hd : decide ((acc : Int) ≤ (most : Int)) = false := by simp; omega
              have hle := Lib.hid (tnodesL_le ts j)
              by_cases hmo : acc ≤ most + 1
              · have hmi : (acc : Int) ≤ (most : Int) + 1 := by omega
                have HF2 : Hid (R = acc) := by
                  have h1 := hc.out
                  have h3 := HR.out
                  have : R = acc := by unfold RCnt at h1; have h4 := hle.out; omega
                  exact this
                go_wp2_with fail
                go_ret
                exact ⟨by rw [HF2.out]; rfl, HB.out.trans (HBW.out.mono HB.out.size)⟩
              · have hmi : (most : Int) + 1 < (acc : Int) := by omega
                have HF2 : Hid (R = most + 1) := by
                  have h1 := hc.out
                  have h3 := HR.out
                  have : R = most + 1 := by unfold RCnt at h1; have h4 := hle.out; omega
                  exact this
                go_wp2_with fail
                go_ret
                exact ⟨by rw [HF2.out]; rfl, HB.out.trans (HBW.out.mono HB.out.size)⟩
          · have hln : decide ((j : Int) < (sl : Int)) = false := by simp; omega
            have hle := Lib.hid (show ts.take j = ts from List.take_of_length_le (by rw [HLEN.out]; omega))
            by_cases hmo : acc ≤ most + 1
            · have hmi : (acc : Int) ≤ (most : Int) + 1 := by omega
              have HF2 : Hid (R = acc) := by
                have h1 := hc.out
                have h3 := HR.out
                have : R = acc := by unfold RCnt at h1; rw [hle.out] at h1; omega
                exact this
              go_wp2_with fail
              go_ret
              exact ⟨by rw [HF2.out]; rfl, HB.out.trans (HBW.out.mono HB.out.size)⟩
            · have hmi : (most : Int) + 1 < (acc : Int) := by omega
              have HF2 : Hid (R = most + 1) := by
                have h1 := hc.out
                have h3 := HR.out
                have : R = most + 1 := by unfold RCnt at h1; rw [hle.out] at h1; omega
                exact this
              go_wp2_with fail
              go_ret
              exact ⟨by rw [HF2.out]; rfl, HB.out.trans (HBW.out.mono HB.out.size)⟩
    · have hln : decide ((j : Int) < (ll : Int)) = false := by simp; omega
      have HC0 : Hid (RCnt most acc (1 + nodesL ls + tnodesL (ts.take 0))) := by
        have h1 := hc.out
        have : RCnt most acc (1 + nodesL ls + tnodesL (ts.take 0)) := by
          rw [List.take_of_length_le (by rw [HLL.out]; omega)] at h1
          rw [List.take_zero, tnodesL]
          exact h1
        exact this
      go_wp2_with fail
      generalize wr = Wq at *
      go_loopw [5, 7] (fun c i wr => ∃ j acc : Nat, j ≤ sl ∧ i = .int .i64 j ∧ c = .int .i64 acc ∧ Hid (RCnt most acc (1 + nodesL ls + tnodesL (ts.take j))) ∧ acc ≤ 2 + 4 * most ∧ Hid (Below W.heap.size W wr)) (fun _ i _ => sl - (intOf i).toNat)
      case atStart => exact ⟨0, acc, Nat.zero_le _, rfl, rfl, HC0.out, by omega, HBW.out⟩
      case round =>
        obtain ⟨j, acc, hj, rfl, rfl, hc, ha, hb⟩ := hrel
        have HBW := hb
        obtain ⟨a0, a1, a2, a3, a4⟩ := five_cells ((hb.out.block w.heap.size (by omega)).trans HR0.out)
        by_cases hlt : j < sl
        · have hx1 : j < ts.length := by rw [HLEN.out]; exact hlt
          have hln : decide ((j : Int) < (sl : Int)) = true := by simp; omega
          by_cases hmo : acc ≤ most
          · have hd : decide ((acc : Int) ≤ (most : Int)) = true := by simp; omega
            obtain ⟨bk, o, l1, s1, eA, hbs, _, hc0, hc1, hc2, hc3, hc4, htm⟩ := tsP_get HTS.out j hx1
            subst eA
            obtain ⟨⟨xa, xl, xc, rfl⟩, ya, yl, yc, rfl⟩ := tmP_slices htm
            have hBw := HB.out.trans (hb.out.mono HB.out.size)
            have d0 := (hBw.cell (p := ⟨bk, _, none⟩) hbs).trans hc0
            have d1 := (hBw.cell (p := ⟨bk, _, none⟩) hbs).trans hc1
            have d2 := (hBw.cell (p := ⟨bk, _, none⟩) hbs).trans hc2
            have d3 := (hBw.cell (p := ⟨bk, _, none⟩) hbs).trans hc3
            have d4 := (hBw.cell (p := ⟨bk, _, none⟩) hbs).trans hc4
            have hcall := IH.out ts[j] (tv ts[j] (.slice xa xl xc) (.slice ya yl yc)) wr (Nat.le_trans (tnodes_mem (List.getElem_mem hx1)) HTN.out) ⟨_, _, rfl, tmP_below hBw htm⟩
            have HNT := Lib.hid (tnodesL_take hx1)
            obtain ⟨q, hq⟩ : ∃ q, min (tnodes ts[j]) (most + 1) = q := ⟨_, rfl⟩
            rw [hq] at hcall
            have HCALL := Lib.hid hcall
            dsimp only [tv] at HCALL
            have HC2 : Hid (RCnt most (acc + q) (1 + nodesL ls + tnodesL (ts.take (j + 1)))) := by
              have h1 := hc.out
              have : RCnt most (acc + q) (1 + nodesL ls + tnodesL (ts.take (j + 1))) := by
                unfold RCnt at h1 ⊢
                rw [HNT.out, ← hq]
                omega
              exact this
            have hq2 : q ≤ most + 1 := by omega
            have q1 : (0 : Int) ≤ (j : Int) := by omega
            have q2 : (j : Int) < (sl : Int) := by omega
            generalize tkOf ts[j] = ka at *
            generalize tnOf ts[j] = na at *
            generalize tmOf ts[j] = ma at *
            clear hcall hc0 hc1 hc2 hc3 hc4 htm hq HNT hBw
            go_wp2_with fail
            refine HCALL.out.mono ?_
            rintro e w2 ⟨rfl, hb2⟩
            have HBW2 := Lib.hid (HBW.out.trans (hb2.mono HBW.out.size))
            clear hb2
            go_wp2_with fail
            go_roundw
            case rel => exact ⟨j + 1, acc + q, by omega, by go_num, by go_num, HC2, by omega, HBW2.out⟩
            case measure => simp [intOf]; omega
          · have hd : decide ((acc : Int) ≤ (most : Int)) = false := by simp; omega
            have hle := Lib.hid (tnodesL_le ts j)
            by_cases hmo : acc ≤ most + 1
            · have hmi : (acc : Int) ≤ (most : Int) + 1 := by omega
              have HF2 : Hid (R = acc) := by
                have h1 := hc.out
                have h3 := HR.out
                have : R = acc := by unfold RCnt at h1; have h4 := hle.out; omega
                exact this
              go_wp2_with fail
              go_ret
              exact ⟨by rw [HF2.out]; rfl, HB.out.trans (HBW.out.mono HB.out.size)⟩
            · have hmi : (most : Int) + 1 < (acc : Int) := by omega
              have HF2 : Hid (R = most + 1) := by
                have h1 := hc.out
                have h3 := HR.out
                have : R = most + 1 := by unfold RCnt at h1; have h4 := hle.out; omega
                exact this
              go_wp2_with fail
              go_ret
              exact ⟨by rw [HF2.out]; rfl, HB.out.trans (HBW.out.mono HB.out.size)⟩
        · have hln : decide ((j : Int) < (sl : Int)) = false := by simp; omega
          have hle := Lib.hid (show ts.take j = ts from List.take_of_length_le (by rw [HLEN.out]; omega))
          by_cases hmo : acc ≤ most + 1
          · have hmi : (acc : Int) ≤ (most : Int) + 1 := by omega
            have HF2 : Hid (R = acc) := by
              have h1 := hc.out
              have h3 := HR.out
              have : R = acc := by unfold RCnt at h1; rw [hle.out] at h1; omega
              exact this
            go_wp2_with fail
            go_ret
            exact ⟨by rw [HF2.out]; rfl, HB.out.trans (HBW.out.mono HB.out.size)⟩
          · have hmi : (most : Int) + 1 < (acc : Int) := by omega
            have HF2 : Hid (R = most + 1) := by
              have h1 := hc.out
              have h3 := HR.out
              have : R = most + 1 := by unfold RCnt at h1; rw [hle.out] at h1; omega
              exact this
            go_wp2_with fail
            go_ret
            exact ⟨by rw [HF2.out]; rfl, HB.out.trans (HBW.out.mono HB.out.size)⟩
theorem refNodes_is (t : Tm) (v : Value) (most : Nat) (w : World) (hv : TmV w t v) (hm : most ≤ 100000) (R : Nat) (hR : min (tnodes t) (most + 1) = R) :
    Calls Tryd.prog 17 #[v, .int .i64 most] w (Ret w (.int .i64 R)) := by
  subst hR
  exact refNodes_up most hm (tnodes t) t v w (Nat.le_refl _) hv
end Trm
end Go.Proofs.YtlijdgamobpndaaDoor
