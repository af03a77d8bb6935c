/-
  Plain facts and contracts that the law's proof stands on, joined.
  Conditions: each fact's own.
-/
import Derived.Test.YteomfakbbcpckaaGreatDoorJ26
import Derived.Test.YteomfakbbcpckaaGreatDoorJ29
import Derived.Test.YteomfakbbcpckaaGreatDoorJ30
namespace Go.Proofs.YteomfakbbcpckaaGreatDoor
open Go.RowKit Go.Maps
open Lvl
open Trm
namespace Bnd
def cAb (RN : ByteArray → Bool) : Tm → Nat → Prop := fun l d => cRa RN l d ∧ (tmOf l).size ≤ 140737488355328
mutual
theorem nm_leaves : ∀ (t : Tm) (d : Nat), nmOk t → allT (fun l _ => (tmOf l).size ≤ 140737488355328) t d
 | .mk k n m ls ts, d, h => by
  rw [nmOk] at h
  rw [allT]
  exact ⟨fun _ => h.1, nm_leavesL k ts.length ts 0 d h.2⟩
theorem nm_leavesL (k : Int) (len : Nat) : ∀ (ts : List Tm) (i d : Nat), nmOkL ts → allL (fun l _ => (tmOf l).size ≤ 140737488355328) k len ts i d
 | [], _, _, _ => by rw [allL]; trivial
 | a :: ts, i, d, h => by
  rw [nmOkL] at h
  rw [allL]
  exact ⟨nm_leaves a _ h.1, nm_leavesL k len ts (i + 1) d h.2⟩
end
mutual
theorem allT_and {P Q : Tm → Nat → Prop} : ∀ (t : Tm) (d : Nat), allT P t d → allT Q t d → allT (fun l e => P l e ∧ Q l e) t d
 | .mk k n m ls ts, d, h, h' => by
  rw [allT] at h h' ⊢
  exact ⟨fun e => ⟨h.1 e, h'.1 e⟩, allL_and k ts.length ts 0 d h.2 h'.2⟩
theorem allL_and {P Q : Tm → Nat → Prop} (k : Int) (len : Nat) : ∀ (ts : List Tm) (i d : Nat), allL P k len ts i d → allL Q k len ts i d → allL (fun l e => P l e ∧ Q l e) k len ts i d
 | [], _, _, _, _ => by rw [allL]; trivial
 | a :: ts, i, d, h, h' => by
  rw [allL] at h h' ⊢
  exact ⟨allT_and a _ h.1 h'.1, allL_and k len ts (i + 1) d h.2 h'.2⟩
end
theorem ab_leaves {RN : ByteArray → Bool} {t : Tm} (h : rightT RN 4 t 1125899906842624 = true) (hn : nmOk t) : allT (cAb RN) t 0 := allT_and t 0 (ra_leaves h) (nm_leaves t 0 hn)
theorem ab_few {RN : ByteArray → Bool} {names : List ByteArray} (l : Tm) (d : Nat) (h : cAb RN l d) : tnodes (absF names l d) ≤ 100000 := by
 obtain ⟨hc, _⟩ := h
 have h2 := ra_few (names.length : Int) 0 l d hc
 obtain ⟨K, _, hok, k, n, m, ls, rfl⟩ := hc
 rw [absF]
 split
 ·rw [tnodes, nodesL, tnodesL]; omega
 ·exact h2
set_option maxRecDepth 100000 in
set_option maxHeartbeats 2500000 in
theorem put_abs (RN : ByteArray → Bool) (w0 : World) (B1 B2 B3 Bf Bb bm n9 : Nat) (Dm : DataW Unit) (A : Option Addr) (len cap : Nat) (names : List ByteArray) (hc1 : w0.cell? ⟨B1, 0, none⟩ = some (.map (some bm))) (hm : w0.ownsMap Tryz.prog 9 (plainElem Tryz.prog 3) bm n9 Dm) (hmf : MapF Dm (placed names 0)) (hc2 : w0.cell? ⟨B2, 0, none⟩ = some (.slice A len cap)) (hlen : names.length = len) (hl6 : len ≤ 1000000) (hc3 : w0.cell? ⟨B3, 0, none⟩ = some (.func (.func 67) #[] #[.pointer (some ⟨Bf, 0, none⟩), .pointer (some ⟨Bb, 0, none⟩)])) (hpr : PutC w0 67 #[.pointer (some ⟨Bf, 0, none⟩), .pointer (some ⟨Bb, 0, none⟩)] (raF (len : Int) 0) (cRa RN)) :
  PutC w0 50 #[.pointer (some ⟨B1, 0, none⟩), .pointer (some ⟨B2, 0, none⟩), .pointer (some ⟨B3, 0, none⟩)] (absF names) (cAb RN) := by
 intro w1 k n m ls l sa sc d hbw hl hd hC
 obtain ⟨i0, hi0, hz0, hz1, hz2⟩ := info_parts infoTm
 obtain ⟨hC, hms⟩ := hC
 replace hms : m.size ≤ 140737488355328 := hms
 have HL := Lib.hid hl
 obtain ⟨la, ll, lc, rfl⟩ := lvP_slice hl
 have l1 := World.block_lt_of_cell? w0 ⟨B1, 0, none⟩ hc1
 have l2 := World.block_lt_of_cell? w0 ⟨B2, 0, none⟩ hc2
 have l3 := World.block_lt_of_cell? w0 ⟨B3, 0, none⟩ hc3
 have HCC := Lib.hid (fun (W' : World) (h : Below w0.heap.size w0 W') => And.intro ((h.cell (p := ⟨B1, 0, none⟩) l1).trans hc1) (And.intro ((h.cell (p := ⟨B2, 0, none⟩) l2).trans hc2) ((h.cell (p := ⟨B3, 0, none⟩) l3).trans hc3)))
 have HMM := Lib.hid (fun (W' : World) (h : Below w0.heap.size w0 W') => map_keep6 hm (h.block bm hm.lt))
 have HW1 := Lib.hid hbw
 have hkey : keyOf Tryz.prog 9 (.string m) = some (.string m.data.toList) := WideMaps.keyOf_string_mk Tryz.underlying9 (by unfold maxLen; omega)
 have HLN := Lib.hid hlen
 have HPR := Lib.hid (fun (W' : World) (h : Below w0.heap.size w0 W') (hlv : LvP W' (fun _ => True) (.mk 0 0 ls) (.slice la ll lc)) => hpr W' k n m ls (.slice la ll lc) sa sc d h hlv hd hC)
 have hmx := hmf.2 m
 rw [last_placed, hlen] at hmx
 clear hl hc1 hc2 hc3 hm hmf hbw hlen hpr hC l1 l2 l3
 show Calls Tryz.prog 50 #[.agg #[.int .i64 k, .int .i64 n, .string m, .slice la ll lc, .slice sa 0 sc, .int .i64 d], .pointer (some ⟨B1, 0, none⟩), .pointer (some ⟨B2, 0, none⟩), .pointer (some ⟨B3, 0, none⟩)] w1 _
 obtain ⟨w, rfl⟩ : ∃ w, w = w1 := ⟨_, rfl⟩
 go_enter Tryz.func50, Tryz.ntmps50
 go_upto_region 1 with fail
 have z1 : (w.alloc (.cells #[.int .i64 k, .int .i64 n, .string m, .slice la ll lc, .slice sa 0 sc, .int .i64 d] 62)).heap.size = w.heap.size + 1 := by simp
 have z2 : ((w.alloc (.cells #[.int .i64 k, .int .i64 n, .string m, .slice la ll lc, .slice sa 0 sc, .int .i64 d] 62)).alloc (.cells #[.int .i64 0, .int .i64 0, .string ⟨#[]⟩, .slice none 0 0, .slice none 0 0] 25)).heap.size = w.heap.size + 1 + 1 := by simp
 have r0 : (w.alloc (.cells #[.int .i64 k, .int .i64 n, .string m, .slice la ll lc, .slice sa 0 sc, .int .i64 d] 62)).heap[w.heap.size]? = some (Obj.cells #[.int .i64 k, .int .i64 n, .string m, .slice la ll lc, .slice sa 0 sc, .int .i64 d] 62 (0, 0)) := by
  have := heap_alloc_new w (.cells #[.int .i64 k, .int .i64 n, .string m, .slice la ll lc, .slice sa 0 sc, .int .i64 d] 62)
  exact this
 have r1 : ((w.alloc (.cells #[.int .i64 k, .int .i64 n, .string m, .slice la ll lc, .slice sa 0 sc, .int .i64 d] 62)).alloc (.cells #[.int .i64 0, .int .i64 0, .string ⟨#[]⟩, .slice none 0 0, .slice none 0 0] 25)).heap[w.heap.size + 1]? = some (Obj.cells #[.int .i64 0, .int .i64 0, .string ⟨#[]⟩, .slice none 0 0, .slice none 0 0] 25 (0, 0)) := by
  have := heap_alloc_new (w.alloc (.cells #[.int .i64 k, .int .i64 n, .string m, .slice la ll lc, .slice sa 0 sc, .int .i64 d] 62)) (.cells #[.int .i64 0, .int .i64 0, .string ⟨#[]⟩, .slice none 0 0, .slice none 0 0] 25)
  rwa [z1] at this
 have HB := Lib.hid ((below_lit w (.cells #[.int .i64 k, .int .i64 n, .string m, .slice la ll lc, .slice sa 0 sc, .int .i64 d] 62)).trans ((below_lit (w.alloc (.cells #[.int .i64 k, .int .i64 n, .string m, .slice la ll lc, .slice sa 0 sc, .int .i64 d] 62)) (.cells #[.int .i64 0, .int .i64 0, .string ⟨#[]⟩, .slice none 0 0, .slice none 0 0] 25)).mono (below_lit w (.cells #[.int .i64 k, .int .i64 n, .string m, .slice la ll lc, .slice sa 0 sc, .int .i64 d] 62)).size))
 have HRL := Lib.hid ((heap_alloc_old (w.alloc (.cells #[.int .i64 k, .int .i64 n, .string m, .slice la ll lc, .slice sa 0 sc, .int .i64 d] 62)) (.cells #[.int .i64 0, .int .i64 0, .string ⟨#[]⟩, .slice none 0 0, .slice none 0 0] 25) (by rw [z1]; omega)).trans (r0))
 have HRB := Lib.hid (r1)
 clear r0 r1
 generalize ((w.alloc (.cells #[.int .i64 k, .int .i64 n, .string m, .slice la ll lc, .slice sa 0 sc, .int .i64 d] 62)).alloc (.cells #[.int .i64 0, .int .i64 0, .string ⟨#[]⟩, .slice none 0 0, .slice none 0 0] 25)) = W at *
 have HZ := Lib.hid z2
 clear z1 z2
 have HWW := Lib.hid (HW1.out.trans (HB.out.mono HW1.out.size))
 obtain ⟨a0, a1, a2, a3, a4, a5⟩ := six_cells HRL.out
 obtain ⟨c1, c2, c3⟩ := HCC.out W HWW.out
 have hmap := HMM.out W HWW.out
 have hraise := HPR.out W HWW.out (lvP_move (w := w) (fun b hlt _ => ⟨trivial, HB.out.block b hlt⟩) HB.out.size _ _ HL.out)
 have HRS : Hid (Calls Tryz.prog 67 #[.agg #[.int .i64 k, .int .i64 n, .string m, .slice la ll lc, .slice sa 0 sc, .int .i64 d], .pointer (some ⟨Bf, 0, none⟩), .pointer (some ⟨Bb, 0, none⟩)] W (TmRet W (raF (len : Int) 0 (.mk k n m ls []) d))) := hraise
 obtain ⟨f, hf⟩ : ∃ f, fstI m names = f := ⟨_, rfl⟩
 rw [hf] at hmx
 have HF0 := Lib.hid hf
 clear hraise hf
 by_cases hfl : f < len
 ·rw [if_pos hfl] at hmx
  have hhas : Maps.has Dm (.string m.data.toList) = true := hmx.1
  have hat : Dm.atKey (.string m.data.toList) (.lit (.int .i64 0)) = .lit (.int .i64 (f : Int)) := by have := hmx.2; simpa using this
  clear hmx
  by_cases hk : k = 3
  ·subst hk
   have hF : Hid (absF names (.mk 3 n m ls []) d = tvr ((d : Int) + (len : Int) - 1 - (f : Int))) := by
    have : absF names (.mk 3 n m ls []) d = tvr ((d : Int) + (len : Int) - 1 - (f : Int)) := by rw [absF, if_pos ⟨rfl, by rw [HF0.out, HLN.out]; exact hfl⟩, HF0.out, HLN.out]
    exact this
   have hw1 : IntKind.i64.wrap ((d : Int) + (len : Int)) = (d : Int) + (len : Int) := IntWalk.i64_in _ ⟨by omega, by omega⟩
   have hw2 : IntKind.i64.wrap ((d : Int) + (len : Int) - 1) = (d : Int) + (len : Int) - 1 := IntWalk.i64_in _ ⟨by omega, by omega⟩
   have hw3 : IntKind.i64.wrap ((d : Int) + (len : Int) - 1 - (f : Int)) = (d : Int) + (len : Int) - 1 - (f : Int) := IntWalk.i64_in _ ⟨by omega, by omega⟩
   go_wp2_with (at_lookup; refine wpList_lookup_own_ok_int _ rfl _ _ 68 rfl 9 3 .i64 keyLawS Tryz.underlying68 Tryz.underlying3 (zeroI _) bm n9 Dm rfl hmap _ _ rfl hkey ?_; intro c hcq1 hcq2; rw [hat] at hcq1; cases hcq1; rw [hhas])
   refine (var_is ((d : Int) + (len : Int) - 1 - (f : Int)) W).mono ?_
   rintro e w9 ⟨l9, s9, rfl, ht9, hb9⟩
   obtain ⟨⟨ua, ul, uc, rfl⟩, va, vl, vc, rfl⟩ := tmP_slices ht9
   have HT9 := Lib.hid ht9
   have hrz := (hb9.block (w.heap.size + 1) (Array.getElem?_eq_some_iff.1 HRB.out).1).trans HRB.out
   have HB9 := Lib.hid (HB.out.trans (hb9.mono HB.out.size))
   have HS9 := Lib.hid (Array.getElem?_eq_some_iff.1 HRB.out).1
   clear ht9 hb9
   clear a0 a1 a2 a3 a4 a5 c1 c2 c3 hmap HRS
   dsimp only [tv, tkOf, tnOf, tmOf]
   obtain ⟨e0, e1, e2, e3, e4⟩ := five_cells hrz
   have g0 := frozen0 (p := 0) hrz
   have g1 := frozen0 (p := 1) hrz
   have g2 := frozen0 (p := 2) hrz
   have g3 := frozen0 (p := 3) hrz
   have g4 := frozen0 (p := 4) hrz
   go_wp2_with fail
   refine bodyPost_ret (results_cell_row rfl _ _ (w.heap.size + 1) 25 _ (0, 0) _ rfl (set5_row hrz) Tryz.underlying25 rfl (by rw [hi0, Option.map_some, hz1]; rfl)) rfl ?_
   rw [hF.out]
   refine ⟨_, _, rfl, tmP_move (w := w9) (fun b hlt (hp : W.heap.size ≤ b) => ⟨by have := HS9.out; omega, set5_far' w9 (w.heap.size + 1) 0 b _ _ _ _ _ (by have := HS9.out; omega)⟩) (Nat.le_of_eq (set5_sz w9 (w.heap.size + 1) 0 _ _ _ _ _).symm) _ _ _ HT9.out, set5_below HB9.out _ 0 _ _ _ _ _ (by omega)⟩
  ·have hF : Hid (absF names (.mk k n m ls []) d = raF (len : Int) 0 (.mk k n m ls []) d) := by
    have : absF names (.mk k n m ls []) d = raF (len : Int) 0 (.mk k n m ls []) d := by rw [absF, if_neg (fun h => hk h.1), HLN.out]
    exact this
   have hk3 : (k == 3) = false := by simp [hk]
   obtain ⟨kx, hkx⟩ : ∃ q, tkOf (raF (len : Int) 0 (.mk k n m ls []) d) = q := ⟨_, rfl⟩
   obtain ⟨nx, hnx⟩ : ∃ q, tnOf (raF (len : Int) 0 (.mk k n m ls []) d) = q := ⟨_, rfl⟩
   obtain ⟨mx, hmx9⟩ : ∃ q, tmOf (raF (len : Int) 0 (.mk k n m ls []) d) = q := ⟨_, rfl⟩
   have HXX := Lib.hid (And.intro hkx (And.intro hnx hmx9))
   clear hkx hnx hmx9
   go_wp2_with (at_lookup; refine wpList_lookup_own_ok_int _ rfl _ _ 68 rfl 9 3 .i64 keyLawS Tryz.underlying68 Tryz.underlying3 (zeroI _) bm n9 Dm rfl hmap _ _ rfl hkey ?_; intro c hcq1 hcq2; rw [hat] at hcq1; cases hcq1; rw [hhas])
   refine (HRS.out).mono ?_
   rintro e w9 ⟨l9, s9, rfl, ht9, hb9⟩
   obtain ⟨⟨xa, xl, xc, rfl⟩, ya, yl, yc, rfl⟩ := tmP_slices ht9
   have HT9 := Lib.hid ht9
   have hrz := (hb9.block (w.heap.size + 1) (Array.getElem?_eq_some_iff.1 HRB.out).1).trans HRB.out
   have HB9 := Lib.hid (HB.out.trans (hb9.mono HB.out.size))
   have HS9 := Lib.hid (Array.getElem?_eq_some_iff.1 HRB.out).1
   clear ht9 hb9
   clear a0 a1 a2 a3 a4 a5 c1 c2 c3 hmap HRS
   dsimp only [tv]
   rw [HXX.out.1, HXX.out.2.1, HXX.out.2.2]
   obtain ⟨e0, e1, e2, e3, e4⟩ := five_cells hrz
   have g0 := frozen0 (p := 0) hrz
   have g1 := frozen0 (p := 1) hrz
   have g2 := frozen0 (p := 2) hrz
   have g3 := frozen0 (p := 3) hrz
   have g4 := frozen0 (p := 4) hrz
   go_wp2_with fail
   refine bodyPost_ret (results_cell_row rfl _ _ (w.heap.size + 1) 25 _ (0, 0) _ rfl (set5_row hrz) Tryz.underlying25 rfl (by rw [hi0, Option.map_some, hz1]; rfl)) rfl ?_
   rw [hF.out]
   refine ⟨.slice xa xl xc, .slice ya yl yc, by dsimp only [tv]; rw [HXX.out.1, HXX.out.2.1, HXX.out.2.2], tmP_move (w := w9) (fun b hlt (hp : W.heap.size ≤ b) => ⟨by have := HS9.out; omega, set5_far' w9 (w.heap.size + 1) 0 b _ _ _ _ _ (by have := HS9.out; omega)⟩) (Nat.le_of_eq (set5_sz w9 (w.heap.size + 1) 0 _ _ _ _ _).symm) _ _ _ HT9.out, set5_below HB9.out _ 0 _ _ _ _ _ (by omega)⟩
 ·rw [if_neg hfl] at hmx
  have hhas : Maps.has Dm (.string m.data.toList) = false := hmx.1
  have hat : Dm.atKey (.string m.data.toList) (.lit (.int .i64 0)) = .lit (.int .i64 0) := hmx.2
  clear hmx
  have hF : Hid (absF names (.mk k n m ls []) d = raF (len : Int) 0 (.mk k n m ls []) d) := by
   have : absF names (.mk k n m ls []) d = raF (len : Int) 0 (.mk k n m ls []) d := by rw [absF, if_neg (fun h => hfl (by have := h.2; rw [HF0.out, HLN.out] at this; exact this)), HLN.out]
   exact this
  obtain ⟨kx, hkx⟩ : ∃ q, tkOf (raF (len : Int) 0 (.mk k n m ls []) d) = q := ⟨_, rfl⟩
  obtain ⟨nx, hnx⟩ : ∃ q, tnOf (raF (len : Int) 0 (.mk k n m ls []) d) = q := ⟨_, rfl⟩
  obtain ⟨mx, hmx9⟩ : ∃ q, tmOf (raF (len : Int) 0 (.mk k n m ls []) d) = q := ⟨_, rfl⟩
  have HXX := Lib.hid (And.intro hkx (And.intro hnx hmx9))
  clear hkx hnx hmx9
  go_wp2_with (at_lookup; refine wpList_lookup_own_ok_int _ rfl _ _ 68 rfl 9 3 .i64 keyLawS Tryz.underlying68 Tryz.underlying3 (zeroI _) bm n9 Dm rfl hmap _ _ rfl hkey ?_; intro c hcq1 hcq2; rw [hat] at hcq1; cases hcq1; rw [hhas])
  refine (HRS.out).mono ?_
  rintro e w9 ⟨l9, s9, rfl, ht9, hb9⟩
  obtain ⟨⟨xa, xl, xc, rfl⟩, ya, yl, yc, rfl⟩ := tmP_slices ht9
  have HT9 := Lib.hid ht9
  have hrz := (hb9.block (w.heap.size + 1) (Array.getElem?_eq_some_iff.1 HRB.out).1).trans HRB.out
  have HB9 := Lib.hid (HB.out.trans (hb9.mono HB.out.size))
  have HS9 := Lib.hid (Array.getElem?_eq_some_iff.1 HRB.out).1
  clear ht9 hb9
  clear a0 a1 a2 a3 a4 a5 c1 c2 c3 hmap HRS
  dsimp only [tv]
  rw [HXX.out.1, HXX.out.2.1, HXX.out.2.2]
  obtain ⟨e0, e1, e2, e3, e4⟩ := five_cells hrz
  have g0 := frozen0 (p := 0) hrz
  have g1 := frozen0 (p := 1) hrz
  have g2 := frozen0 (p := 2) hrz
  have g3 := frozen0 (p := 3) hrz
  have g4 := frozen0 (p := 4) hrz
  go_wp2_with fail
  refine bodyPost_ret (results_cell_row rfl _ _ (w.heap.size + 1) 25 _ (0, 0) _ rfl (set5_row hrz) Tryz.underlying25 rfl (by rw [hi0, Option.map_some, hz1]; rfl)) rfl ?_
  rw [hF.out]
  refine ⟨.slice xa xl xc, .slice ya yl yc, by dsimp only [tv]; rw [HXX.out.1, HXX.out.2.1, HXX.out.2.2], tmP_move (w := w9) (fun b hlt (hp : W.heap.size ≤ b) => ⟨by have := HS9.out; omega, set5_far' w9 (w.heap.size + 1) 0 b _ _ _ _ _ (by have := HS9.out; omega)⟩) (Nat.le_of_eq (set5_sz w9 (w.heap.size + 1) 0 _ _ _ _ _).symm) _ _ _ HT9.out, set5_below HB9.out _ 0 _ _ _ _ _ (by omega)⟩
end Bnd
end Go.Proofs.YteomfakbbcpckaaGreatDoor
namespace Go.Proofs.YteomfakbbcpckaaGreatDoor
open Go.RowKit
open Lvl
open Trm
namespace Bnd
attribute [local go_sem] run_store_fn
set_option maxRecDepth 100000 in
set_option maxHeartbeats 2500000 in
theorem abstract_is (RN : ByteArray → Bool) (t : Tm) (l s : Value) (A : Option Addr) (len cap : Nat) (names : List ByteArray) (w : World) (ht : TmP w (fun _ => True) t l s) (hnm : nmOk t) (hx : Txt w A names) (hle : ∀ x ∈ names, x.size ≤ 140737488351232) (hlen : names.length = len) (hl6 : len ≤ 1000000) (CN : NameC w RN) (b : Bool) (hb : (rightT RN 4 t 1125899906842624 && decide (tnodes (subT (absF names) t 0) ≤ 2000)) = b) :
  Calls Tryz.prog 19 #[tv t l s, .slice A len cap] w (BRet w b (subT (absF names) t 0)) := by
 obtain ⟨i0, hi0, hz0, hz1, hz2⟩ := info_parts infoTm
 have HNK := Lib.hid hnm
 have HCN := Lib.hid CN
 have HTX := Lib.hid hx
 have HLE := Lib.hid hle
 have HLN := Lib.hid hlen
 obtain ⟨X, hX⟩ : ∃ X, subT (absF names) t 0 = X := ⟨_, rfl⟩
 have HX := Lib.hid hX
 rw [hX]
 obtain ⟨kx, hkx⟩ : ∃ q, tkOf X = q := ⟨_, rfl⟩
 obtain ⟨nx, hnx⟩ : ∃ q, tnOf X = q := ⟨_, rfl⟩
 obtain ⟨mx, hmx⟩ : ∃ q, tmOf X = q := ⟨_, rfl⟩
 have HXX := Lib.hid (And.intro hkx (And.intro hnx hmx))
 rw [hX] at hb
 have HBB := Lib.hid hb
 clear hnm CN hb hx hle hlen hX hkx hnx hmx
 obtain ⟨⟨la, ll, lc, rfl⟩, sa, sl, sc, rfl⟩ := tmP_slices ht
 have HTT := Lib.hid ht
 obtain ⟨k, hk⟩ : ∃ k, tkOf t = k := ⟨_, rfl⟩
 obtain ⟨n, hn⟩ : ∃ n, tnOf t = n := ⟨_, rfl⟩
 obtain ⟨m, hmm⟩ : ∃ m, tmOf t = m := ⟨_, rfl⟩
 dsimp only [tv]
 rw [hk, hn, hmm]
 have HK := Lib.hid hk
 have HNN := Lib.hid hn
 have HMM := Lib.hid hmm
 clear hk hn hmm ht
 go_enter Tryz.func19, Tryz.ntmps19
 go_upto_region 1 with fail
 have z1 : (w.alloc (.cells #[.int .i64 k, .int .i64 n, .string m, .slice la ll lc, .slice sa sl sc] 25)).heap.size = w.heap.size + 1 := by simp
 have z2 : ((w.alloc (.cells #[.int .i64 k, .int .i64 n, .string m, .slice la ll lc, .slice sa sl sc] 25)).alloc (.cells #[.slice A len cap] 37)).heap.size = w.heap.size + 1 + 1 := by simp
 have z3 : (((w.alloc (.cells #[.int .i64 k, .int .i64 n, .string m, .slice la ll lc, .slice sa sl sc] 25)).alloc (.cells #[.slice A len cap] 37)).alloc (.cells #[.int .i64 0, .int .i64 0, .string ⟨#[]⟩, .slice none 0 0, .slice none 0 0] 25)).heap.size = w.heap.size + 1 + 1 + 1 := by simp
 have r0 : (w.alloc (.cells #[.int .i64 k, .int .i64 n, .string m, .slice la ll lc, .slice sa sl sc] 25)).heap[w.heap.size]? = some (Obj.cells #[.int .i64 k, .int .i64 n, .string m, .slice la ll lc, .slice sa sl sc] 25 (0, 0)) := by
  have := heap_alloc_new w (.cells #[.int .i64 k, .int .i64 n, .string m, .slice la ll lc, .slice sa sl sc] 25)
  exact this
 have r1 : ((w.alloc (.cells #[.int .i64 k, .int .i64 n, .string m, .slice la ll lc, .slice sa sl sc] 25)).alloc (.cells #[.slice A len cap] 37)).heap[w.heap.size + 1]? = some (Obj.cells #[.slice A len cap] 37 (0, 0)) := by
  have := heap_alloc_new (w.alloc (.cells #[.int .i64 k, .int .i64 n, .string m, .slice la ll lc, .slice sa sl sc] 25)) (.cells #[.slice A len cap] 37)
  rwa [z1] at this
 have r2 : (((w.alloc (.cells #[.int .i64 k, .int .i64 n, .string m, .slice la ll lc, .slice sa sl sc] 25)).alloc (.cells #[.slice A len cap] 37)).alloc (.cells #[.int .i64 0, .int .i64 0, .string ⟨#[]⟩, .slice none 0 0, .slice none 0 0] 25)).heap[w.heap.size + 1 + 1]? = some (Obj.cells #[.int .i64 0, .int .i64 0, .string ⟨#[]⟩, .slice none 0 0, .slice none 0 0] 25 (0, 0)) := by
  have := heap_alloc_new ((w.alloc (.cells #[.int .i64 k, .int .i64 n, .string m, .slice la ll lc, .slice sa sl sc] 25)).alloc (.cells #[.slice A len cap] 37)) (.cells #[.int .i64 0, .int .i64 0, .string ⟨#[]⟩, .slice none 0 0, .slice none 0 0] 25)
  rwa [z2] at this
 have HB := Lib.hid (((below_lit w (.cells #[.int .i64 k, .int .i64 n, .string m, .slice la ll lc, .slice sa sl sc] 25)).trans ((below_lit (w.alloc (.cells #[.int .i64 k, .int .i64 n, .string m, .slice la ll lc, .slice sa sl sc] 25)) (.cells #[.slice A len cap] 37)).mono (below_lit w (.cells #[.int .i64 k, .int .i64 n, .string m, .slice la ll lc, .slice sa sl sc] 25)).size)).trans ((below_lit ((w.alloc (.cells #[.int .i64 k, .int .i64 n, .string m, .slice la ll lc, .slice sa sl sc] 25)).alloc (.cells #[.slice A len cap] 37)) (.cells #[.int .i64 0, .int .i64 0, .string ⟨#[]⟩, .slice none 0 0, .slice none 0 0] 25)).mono ((below_lit w (.cells #[.int .i64 k, .int .i64 n, .string m, .slice la ll lc, .slice sa sl sc] 25)).trans ((below_lit (w.alloc (.cells #[.int .i64 k, .int .i64 n, .string m, .slice la ll lc, .slice sa sl sc] 25)) (.cells #[.slice A len cap] 37)).mono (below_lit w (.cells #[.int .i64 k, .int .i64 n, .string m, .slice la ll lc, .slice sa sl sc] 25)).size)).size))
 have HR0 := Lib.hid ((heap_alloc_old ((w.alloc (.cells #[.int .i64 k, .int .i64 n, .string m, .slice la ll lc, .slice sa sl sc] 25)).alloc (.cells #[.slice A len cap] 37)) (.cells #[.int .i64 0, .int .i64 0, .string ⟨#[]⟩, .slice none 0 0, .slice none 0 0] 25) (by rw [z2]; omega)).trans ((heap_alloc_old (w.alloc (.cells #[.int .i64 k, .int .i64 n, .string m, .slice la ll lc, .slice sa sl sc] 25)) (.cells #[.slice A len cap] 37) (by rw [z1]; omega)).trans (r0)))
 have HR1 := Lib.hid ((heap_alloc_old ((w.alloc (.cells #[.int .i64 k, .int .i64 n, .string m, .slice la ll lc, .slice sa sl sc] 25)).alloc (.cells #[.slice A len cap] 37)) (.cells #[.int .i64 0, .int .i64 0, .string ⟨#[]⟩, .slice none 0 0, .slice none 0 0] 25) (by rw [z2]; omega)).trans (r1))
 have HR2 := Lib.hid (r2)
 clear r0 r1 r2
 generalize (((w.alloc (.cells #[.int .i64 k, .int .i64 n, .string m, .slice la ll lc, .slice sa sl sc] 25)).alloc (.cells #[.slice A len cap] 37)).alloc (.cells #[.int .i64 0, .int .i64 0, .string ⟨#[]⟩, .slice none 0 0, .slice none 0 0] 25)) = W at *
 have HZ := Lib.hid z3
 clear z1 z2 z3
 have hz := HZ.out
 have HKR : Hid (∀ W', Below W.heap.size W W' → W'.heap[w.heap.size]? = some (Obj.cells #[.int .i64 k, .int .i64 n, .string m, .slice la ll lc, .slice sa sl sc] 25 (0, 0)) ∧ W'.heap[w.heap.size + 1 + 1]? = some (Obj.cells #[.int .i64 0, .int .i64 0, .string ⟨#[]⟩, .slice none 0 0, .slice none 0 0] 25 (0, 0))) := fun W' h => ⟨(h.block w.heap.size (by omega)).trans HR0.out, (h.block (w.heap.size + 1 + 1) (by omega)).trans HR2.out⟩
 have HKS : Hid (∀ W', Below W.heap.size W W' → W'.cell? ⟨w.heap.size + 1, 0, none⟩ = some (.slice A len cap)) := fun W' h => cell_of_row _ _ 0 _ 37 (0, 0) ((h.block (w.heap.size + 1) (by omega)).trans HR1.out)
 have HW : Hid (Below W.heap.size W W) := Below.refl _ _
 clear HR0 HR1 HR2 hz
 obtain ⟨rb, hrb⟩ : ∃ q, rightT RN 4 t 1125899906842624 = q := ⟨_, rfl⟩
 have HRB := Lib.hid hrb
 rw [hrb] at HBB
 clear hrb
 obtain ⟨a0, a1, a2, a3, a4⟩ := five_cells (HKR.out W HW.out).1
 have hbx := below_lit W (.cells #[.int .i64 k, .int .i64 n, .string m, .slice la ll lc, .slice sa sl sc] 25)
 have HRX : Hid (TsP (W.alloc (.cells #[.int .i64 k, .int .i64 n, .string m, .slice la ll lc, .slice sa sl sc] 25)) (fun _ => True) (some ⟨W.heap.size, 0, none⟩) 0 [t]) := tsP_row (ts := [t]) (ss := [(.slice la ll lc, .slice sa sl sc)]) rfl (by
  have := heap_alloc_new W (.cells #[.int .i64 k, .int .i64 n, .string m, .slice la ll lc, .slice sa sl sc] 25)
  rw [← HK.out, ← HNN.out, ← HMM.out] at this ⊢
  exact this) trivial (fun i h1 h2 => by
  obtain rfl : i = 0 := by simp at h1; omega
  exact tmP_below (HB.out.trans ((HW.out.trans (hbx.mono HW.out.size)).mono HB.out.size)) (tmP_weak (fun _ _ => trivial) HTT.out))
 have HBX := Lib.hid hbx
 clear hbx
 go_wp2_with fail
 refine (are_is RN [t] _ 1 1 _ HRX.out rfl (by omega) (by rw [nmOkL, nmOkL]; exact ⟨HNK.out, trivial⟩) (HCN.out.below (HB.out.trans ((HW.out.trans (HBX.out.mono HW.out.size)).mono HB.out.size))) rb (by have := HRB.out; simpa [areB] using this)).mono ?_
 rintro e v2 ⟨rfl, hbq⟩
 have Hv2 := Lib.hid (HW.out.trans ((HBX.out.trans (hbq.mono HBX.out.size)).mono HW.out.size))
 clear hbq HRX HBX
 clear a0 a1 a2 a3 a4
 cases rb with
 | false =>
  obtain rfl : b = false := by rw [← HBB.out]; rfl
  have hrz := (HKR.out _ Hv2.out).2
  obtain ⟨e0, e1, e2, e3, e4⟩ := five_cells hrz
  have g0 := frozen0 (p := 0) hrz
  have g1 := frozen0 (p := 1) hrz
  have g2 := frozen0 (p := 2) hrz
  have g3 := frozen0 (p := 3) hrz
  have g4 := frozen0 (p := 4) hrz
  go_wp2_with fail
  refine bodyPost_ret (results_row_tmp rfl _ _ (w.heap.size + 1 + 1) 25 _ (0, 0) _ rfl (set5_row hrz) Tryz.underlying25 rfl (by rw [hi0, Option.map_some, hz1]; rfl)) rfl ?_
  unfold BRet
  rw [if_neg (by simp)]
  exact ⟨set5_below (HB.out.trans (Hv2.out.mono HB.out.size)) _ 0 _ _ _ _ _ (by omega), rfl⟩
 | true =>
  have HTN := Lib.hid (rightT_ok HRB.out).2.1
  have c0 := HKS.out v2 Hv2.out
  go_wp2_with fail
  refine (firstPlaces_is names A len cap v2 (HTX.out.below (HB.out.trans (Hv2.out.mono HB.out.size))) HLE.out HLN.out hl6).mono ?_
  rintro e v3 ⟨bm, n9, Dm, rfl, hmap, hmf, hbm, hbq⟩
  have Hv3 := Lib.hid (Hv2.out.trans (hbq.mono Hv2.out.size))
  have hbx := below_lit v3 (.cells #[.map (some bm)] 68)
  have hrx := heap_alloc_new v3 (.cells #[.map (some bm)] 68)
  have hsx : v3.heap.size < (v3.alloc (.cells #[.map (some bm)] 68)).heap.size := by simp
  have HMP := Lib.hid (map_keep6 hmap (hbx.block bm hmap.lt))
  have HML := Lib.hid (Nat.lt_of_lt_of_le hmap.lt hbx.size)
  have Hv4 := Lib.hid (Hv3.out.trans (hbx.mono Hv3.out.size))
  have HMF := Lib.hid hmf
  have HRX := Lib.hid hrx
  have HSX := Lib.hid hsx
  clear hmap hmf hbq hbx hrx hsx c0
  have c0 := HKS.out _ Hv4.out
  go_wp2_with fail
  generalize v3.alloc (.cells #[.map (some bm)] 68) = v4 at *
  refine (braised_ex RN (len : Int) 0 (by omega) (by omega) v4).mono ?_
  rintro e v5 ⟨Bf, Bb, rfl, hpc, hbq⟩
  have HPC := Lib.hid hpc
  have Hv5 := Lib.hid (Hv4.out.trans (hbq.mono Hv4.out.size))
  have hby := below_lit v5 (.cells #[.func (.func 67) #[] #[.pointer (some ⟨Bf, 0, none⟩), .pointer (some ⟨Bb, 0, none⟩)]] 59)
  have hry := heap_alloc_new v5 (.cells #[.func (.func 67) #[] #[.pointer (some ⟨Bf, 0, none⟩), .pointer (some ⟨Bb, 0, none⟩)]] 59)
  have HBY := Lib.hid hby
  have Hvz := Lib.hid (Hv5.out.trans (hby.mono Hv5.out.size))
  have h45 := hbq.trans (hby.mono hbq.size)
  have HMC : Hid ((v5.alloc (.cells #[.func (.func 67) #[] #[.pointer (some ⟨Bf, 0, none⟩), .pointer (some ⟨Bb, 0, none⟩)]] 59)).cell? ⟨v3.heap.size, 0, none⟩ = some (.map (some bm)) ∧ (v5.alloc (.cells #[.func (.func 67) #[] #[.pointer (some ⟨Bf, 0, none⟩), .pointer (some ⟨Bb, 0, none⟩)]] 59)).ownsMap Tryz.prog 9 (plainElem Tryz.prog 3) bm n9 Dm) := by
   have : (v5.alloc (.cells #[.func (.func 67) #[] #[.pointer (some ⟨Bf, 0, none⟩), .pointer (some ⟨Bb, 0, none⟩)]] 59)).cell? ⟨v3.heap.size, 0, none⟩ = some (.map (some bm)) ∧ (v5.alloc (.cells #[.func (.func 67) #[] #[.pointer (some ⟨Bf, 0, none⟩), .pointer (some ⟨Bb, 0, none⟩)]] 59)).ownsMap Tryz.prog 9 (plainElem Tryz.prog 3) bm n9 Dm := ⟨cell_of_row _ _ 0 _ 68 (0, 0) ((h45.block v3.heap.size HSX.out).trans HRX.out), map_keep6 HMP.out (h45.block bm HML.out)⟩
   exact this
  have HFC : Hid ((v5.alloc (.cells #[.func (.func 67) #[] #[.pointer (some ⟨Bf, 0, none⟩), .pointer (some ⟨Bb, 0, none⟩)]] 59)).cell? ⟨v5.heap.size, 0, none⟩ = some (.func (.func 67) #[] #[.pointer (some ⟨Bf, 0, none⟩), .pointer (some ⟨Bb, 0, none⟩)])) := cell_of_row _ _ 0 _ 59 (0, 0) hry
  clear hpc hbq hby hry h45 c0
  have hw := with_abs v3.heap.size (w.heap.size + 1) v5.heap.size (absF names) (cAb RN) t (.slice la ll lc) (.slice sa sl sc) (v5.alloc (.cells #[.func (.func 67) #[] #[.pointer (some ⟨Bf, 0, none⟩), .pointer (some ⟨Bb, 0, none⟩)]] 59)) (put_abs RN (v5.alloc (.cells #[.func (.func 67) #[] #[.pointer (some ⟨Bf, 0, none⟩), .pointer (some ⟨Bb, 0, none⟩)]] 59)) v3.heap.size (w.heap.size + 1) v5.heap.size Bf Bb bm n9 Dm A len cap names HMC.out.1 HMC.out.2 HMF.out (HKS.out _ Hvz.out) HLN.out hl6 HFC.out (HPC.out.below HBY.out)) ab_few (by have := HTN.out; omega) (ab_leaves HRB.out HNK.out) (tmP_below (HB.out.trans (Hvz.out.mono HB.out.size)) (tmP_weak (fun _ _ => trivial) HTT.out))
  rw [HX.out] at hw
  dsimp only [tv] at hw
  rw [HK.out, HNN.out, HMM.out] at hw
  have HWC := Lib.hid hw
  clear hw
  by_cases hX2 : tnodes X ≤ 2000
  ·obtain rfl : b = true := by rw [← HBB.out]; simp [hX2]
   obtain ⟨a0, a1, a2, a3, a4⟩ := five_cells (HKR.out _ Hvz.out).1
   go_wp2_with fail
   refine HWC.out.mono ?_
   rintro e v6 ⟨hbq, hres⟩
   rw [if_pos hX2] at hres
   obtain ⟨l9, s9, rfl, ht9⟩ := hres
   obtain ⟨⟨xa, xl, xc, rfl⟩, ya, yl, yc, rfl⟩ := tmP_slices ht9
   dsimp only [tv]
   rw [HXX.out.1, HXX.out.2.1, HXX.out.2.2]
   have HT9 := Lib.hid ht9
   have Hv6 := Lib.hid (Hvz.out.trans (hbq.mono Hvz.out.size))
   have hrz := (HKR.out v6 Hv6.out).2
   clear hbq ht9 a0 a1 a2 a3 a4 HWC
   obtain ⟨e0, e1, e2, e3, e4⟩ := five_cells hrz
   have g0 := frozen0 (p := 0) hrz
   have g1 := frozen0 (p := 1) hrz
   have g2 := frozen0 (p := 2) hrz
   have g3 := frozen0 (p := 3) hrz
   have g4 := frozen0 (p := 4) hrz
   go_wp2_with fail
   refine bodyPost_ret (results_row_tmp rfl _ _ (w.heap.size + 1 + 1) 25 _ (0, 0) _ rfl (set5_row hrz) Tryz.underlying25 rfl (by rw [hi0, Option.map_some, hz1]; rfl)) rfl ?_
   have hz := HZ.out
   have h5 := Hvz.out.size
   refine ⟨set5_below (HB.out.trans (Hv6.out.mono HB.out.size)) _ 0 _ _ _ _ _ (by omega), ?_⟩
   rw [if_pos rfl]
   refine ⟨.slice xa xl xc, .slice ya yl yc, by dsimp only [tv]; rw [HXX.out.1, HXX.out.2.1, HXX.out.2.2]; rfl, ?_⟩
   exact tmP_move (w := v6) (fun b hlt (hp : (v5.alloc (.cells #[.func (.func 67) #[] #[.pointer (some ⟨Bf, 0, none⟩), .pointer (some ⟨Bb, 0, none⟩)]] 59)).heap.size ≤ b) => ⟨by omega, set5_far' v6 (w.heap.size + 1 + 1) 0 b _ _ _ _ _ (by omega)⟩) (by rw [set5_sz]; exact Nat.le_refl _) _ _ _ HT9.out
  ·obtain rfl : b = false := by rw [← HBB.out]; simp [hX2]
   obtain ⟨a0, a1, a2, a3, a4⟩ := five_cells (HKR.out _ Hvz.out).1
   go_wp2_with fail
   refine HWC.out.mono ?_
   rintro e v6 ⟨hbq, hres⟩
   rw [if_neg hX2] at hres
   subst hres
   have Hv6 := Lib.hid (Hvz.out.trans (hbq.mono Hvz.out.size))
   clear hbq a0 a1 a2 a3 a4 HWC
   have hrz := (HKR.out _ Hv6.out).2
   obtain ⟨e0, e1, e2, e3, e4⟩ := five_cells hrz
   have g0 := frozen0 (p := 0) hrz
   have g1 := frozen0 (p := 1) hrz
   have g2 := frozen0 (p := 2) hrz
   have g3 := frozen0 (p := 3) hrz
   have g4 := frozen0 (p := 4) hrz
   go_wp2_with fail
   refine bodyPost_ret (results_row_tmp rfl _ _ (w.heap.size + 1 + 1) 25 _ (0, 0) _ rfl (set5_row hrz) Tryz.underlying25 rfl (by rw [hi0, Option.map_some, hz1]; rfl)) rfl ?_
   unfold BRet
   rw [if_neg (by simp)]
   exact ⟨set5_below (HB.out.trans (Hv6.out.mono HB.out.size)) _ 0 _ _ _ _ _ (by omega), rfl⟩
end Bnd
end Go.Proofs.YteomfakbbcpckaaGreatDoor
