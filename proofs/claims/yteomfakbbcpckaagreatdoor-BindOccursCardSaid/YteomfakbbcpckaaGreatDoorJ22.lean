/-
  Plain facts and contracts that the law's proof stands on, joined.
  Conditions: each fact's own.
-/
import Derived.Test.YteomfakbbcpckaaGreatDoorJ20
import Derived.Test.YteomfakbbcpckaaGreatDoorJ08
import Derived.Test.YteomfakbbcpckaaGreatDoorJ07
namespace Go.Proofs.YteomfakbbcpckaaGreatDoor
open Go.RowKit
open Lvl
open Trm
namespace Bnd
theorem six_cells {w : World} {b : Nat} {x0 x1 x2 x3 x4 x5 : Value} {T : TypeId} (h : w.heap[b]? = some (.cells #[x0, x1, x2, x3, x4, x5] T (0, 0))) : w.cell? ⟨b, 0, none⟩ = some x0 ∧ w.cell? ⟨b, 1, none⟩ = some x1 ∧ w.cell? ⟨b, 2, none⟩ = some x2 ∧ w.cell? ⟨b, 3, none⟩ = some x3 ∧ w.cell? ⟨b, 4, none⟩ = some x4 ∧ w.cell? ⟨b, 5, none⟩ = some x5 :=
 ⟨cell_of_row _ _ 0 _ T (0, 0) h, cell_of_row _ _ 1 _ T (0, 0) h, cell_of_row _ _ 2 _ T (0, 0) h, cell_of_row _ _ 3 _ T (0, 0) h, cell_of_row _ _ 4 _ T (0, 0) h, cell_of_row _ _ 5 _ T (0, 0) h⟩
set_option maxRecDepth 100000 in
set_option maxHeartbeats 4000000 in
theorem lloose_is (k n : Int) (m : ByteArray) (la : Option Addr) (ll lc : Nat) (sa : Option Addr) (sl sc d : Nat) (w : World) (hn : k = 1 → -4503599627370496 ≤ n ∧ n ≤ 4503599627370496) (hd : d ≤ 1000000) (b : Bool) (hb : decide (k = 1 ∧ (d : Int) ≤ n) = b) (r : Int) (hr : (if b = true then n - d else 0) = r) :
  Calls Tryz.prog 42 #[.agg #[.int .i64 k, .int .i64 n, .string m, .slice la ll lc, .slice sa sl sc, .int .i64 d]] w (fun e w' => e = .returned (.tuple #[.int .i64 r, .bool b]) ∧ Below w.heap.size w w') := by
 by_cases hk : k = 1
 ·have hn := hn hk
  by_cases hdn : (d : Int) ≤ n
  ·obtain rfl : b = true := by rw [← hb]; simp [hk, hdn]
   obtain rfl : n - d = r := by rw [← hr]; rfl
   subst hk
   have c1 : decide (n < (d : Int)) = false := by simp; omega
   have hw : IntKind.i64.wrap (n - (d : Int)) = n - (d : Int) := IntWalk.i64_in _ ⟨by omega, by omega⟩
   clear hb hr
   go_enter Tryz.func42, Tryz.ntmps42
   go_wp2_with fail
   go_ret2
   exact ⟨rfl, below_lit w _⟩
  ·obtain rfl : b = false := by rw [← hb]; simp [hdn]
   obtain rfl : 0 = r := by rw [← hr]; rfl
   subst hk
   have c1 : decide (n < (d : Int)) = true := by simp; omega
   clear hb hr
   go_enter Tryz.func42, Tryz.ntmps42
   go_wp2_with fail
   go_ret2
   exact ⟨rfl, below_lit w _⟩
 ·obtain rfl : b = false := by rw [← hb]; simp [hk]
  obtain rfl : 0 = r := by rw [← hr]; rfl
  have c0 : (k != 1) = true := by simp [hk]
  have c2 : (k == 1) = false := by simp [hk]
  clear hb hr
  go_enter Tryz.func42, Tryz.ntmps42
  go_wp2_with fail
  go_ret2
  exact ⟨rfl, below_lit w _⟩
set_option maxRecDepth 100000 in
set_option maxHeartbeats 4000000 in
theorem lown_is (RN : ByteArray → Bool) (k n : Int) (m : ByteArray) (ls : List Lv) (l : Value) (sa : Option Addr) (sl sc d : Nat) (K : Int) (w : World) (hl : LvP w (fun _ => True) (.mk 0 0 ls) l) (hok : okT RN (rightB 4) (.mk k n m ls []) K = true) :
  Calls Tryz.prog 43 #[.agg #[.int .i64 k, .int .i64 n, .string m, l, .slice sa sl sc, .int .i64 d]] w (TmRet w (.mk k n m ls [])) := by
 obtain ⟨i0, hi0, hz0, hz1, hz2⟩ := info_parts infoTm
 have hlv : ∀ a, a ∈ ls → nodes a ≤ 1000 := by
  have h1 := okC_of (RN := RN) (n := 4) _ K 0 hok
  rw [okC] at h1
  exact h1.1.2
 have HLV := Lib.hid hlv
 have HL := Lib.hid hl
 obtain ⟨la, ll, lc, rfl⟩ := lvP_slice hl
 clear hlv hl
 rcases ok_leaf hok with ⟨rfl, _, _, rfl, rfl⟩ | ⟨rfl, rfl, rfl, lv, rfl, _⟩ | ⟨rfl, rfl, _, hl4, _⟩
 ·clear hok
  go_enter Tryz.func43, Tryz.ntmps43
  go_wp2_with fail
  have z1 : (w.alloc (.cells #[.int .i64 1, .int .i64 n, .string ⟨#[]⟩, .slice la ll lc, .slice sa sl sc, .int .i64 d] 62)).heap.size = w.heap.size + 1 := by simp
  have z2 : ((w.alloc (.cells #[.int .i64 1, .int .i64 n, .string ⟨#[]⟩, .slice la ll lc, .slice sa sl sc, .int .i64 d] 62)).alloc (.cells #[.int .i64 0, .int .i64 0, .string ⟨#[]⟩, .slice none 0 0, .slice none 0 0] 25)).heap.size = w.heap.size + 1 + 1 := by simp
  have r0 : (w.alloc (.cells #[.int .i64 1, .int .i64 n, .string ⟨#[]⟩, .slice la ll lc, .slice sa sl sc, .int .i64 d] 62)).heap[w.heap.size]? = some (Obj.cells #[.int .i64 1, .int .i64 n, .string ⟨#[]⟩, .slice la ll lc, .slice sa sl sc, .int .i64 d] 62 (0, 0)) := by
   have := heap_alloc_new w (.cells #[.int .i64 1, .int .i64 n, .string ⟨#[]⟩, .slice la ll lc, .slice sa sl sc, .int .i64 d] 62)
   exact this
  have r1 : ((w.alloc (.cells #[.int .i64 1, .int .i64 n, .string ⟨#[]⟩, .slice la ll lc, .slice sa sl sc, .int .i64 d] 62)).alloc (.cells #[.int .i64 0, .int .i64 0, .string ⟨#[]⟩, .slice none 0 0, .slice none 0 0] 25)).heap[w.heap.size + 1]? = some (Obj.cells #[.int .i64 0, .int .i64 0, .string ⟨#[]⟩, .slice none 0 0, .slice none 0 0] 25 (0, 0)) := by
   have := heap_alloc_new (w.alloc (.cells #[.int .i64 1, .int .i64 n, .string ⟨#[]⟩, .slice la ll lc, .slice sa sl sc, .int .i64 d] 62)) (.cells #[.int .i64 0, .int .i64 0, .string ⟨#[]⟩, .slice none 0 0, .slice none 0 0] 25)
   rwa [z1] at this
  have HB := Lib.hid ((below_lit w (.cells #[.int .i64 1, .int .i64 n, .string ⟨#[]⟩, .slice la ll lc, .slice sa sl sc, .int .i64 d] 62)).trans ((below_lit (w.alloc (.cells #[.int .i64 1, .int .i64 n, .string ⟨#[]⟩, .slice la ll lc, .slice sa sl sc, .int .i64 d] 62)) (.cells #[.int .i64 0, .int .i64 0, .string ⟨#[]⟩, .slice none 0 0, .slice none 0 0] 25)).mono (below_lit w (.cells #[.int .i64 1, .int .i64 n, .string ⟨#[]⟩, .slice la ll lc, .slice sa sl sc, .int .i64 d] 62)).size))
  have HRL := Lib.hid ((heap_alloc_old (w.alloc (.cells #[.int .i64 1, .int .i64 n, .string ⟨#[]⟩, .slice la ll lc, .slice sa sl sc, .int .i64 d] 62)) (.cells #[.int .i64 0, .int .i64 0, .string ⟨#[]⟩, .slice none 0 0, .slice none 0 0] 25) (by rw [z1]; omega)).trans (r0))
  have HRB := Lib.hid (r1)
  clear r0 r1
  generalize ((w.alloc (.cells #[.int .i64 1, .int .i64 n, .string ⟨#[]⟩, .slice la ll lc, .slice sa sl sc, .int .i64 d] 62)).alloc (.cells #[.int .i64 0, .int .i64 0, .string ⟨#[]⟩, .slice none 0 0, .slice none 0 0] 25)) = W at *
  have HZ := Lib.hid z2
  clear z1 z2
  have hz := HZ.out
  refine (var_is n W).mono ?_
  rintro e w9 ⟨l9, s9, rfl, ht9, hb9⟩
  obtain ⟨⟨ua, ul, uc, rfl⟩, va, vl, vc, rfl⟩ := tmP_slices ht9
  have HT9 := Lib.hid ht9
  have hrz := (hb9.block (w.heap.size + 1) (Array.getElem?_eq_some_iff.1 HRB.out).1).trans HRB.out
  have HB9 := Lib.hid (HB.out.trans (hb9.mono HB.out.size))
  have HS9 := Lib.hid (Array.getElem?_eq_some_iff.1 HRB.out).1
  clear ht9 hb9
  dsimp only [tv, tkOf, tnOf, tmOf]
  obtain ⟨e0, e1, e2, e3, e4⟩ := five_cells hrz
  have g0 := frozen0 (p := 0) hrz
  have g1 := frozen0 (p := 1) hrz
  have g2 := frozen0 (p := 2) hrz
  have g3 := frozen0 (p := 3) hrz
  have g4 := frozen0 (p := 4) hrz
  go_wp2_with fail
  refine bodyPost_ret (results_cell_row rfl _ _ (w.heap.size + 1) 25 _ (0, 0) _ rfl (set5_row hrz) Tryz.underlying25 rfl (by rw [hi0, Option.map_some, hz1]; rfl)) rfl ?_
  refine ⟨_, _, rfl, tmP_move (w := w9) (fun b hlt (hp : W.heap.size ≤ b) => ⟨by have := HS9.out; omega, set5_far' w9 (w.heap.size + 1) 0 b _ _ _ _ _ (by have := HS9.out; omega)⟩) (Nat.le_of_eq (set5_sz w9 (w.heap.size + 1) 0 _ _ _ _ _).symm) _ _ _ HT9.out, set5_below HB9.out _ 0 _ _ _ _ _ (by omega)⟩
 ·clear hok
  have hls := HL.out
  rw [LvP] at hls
  obtain ⟨A9, len9, cap9, e9, h1, h2, _, _, h5⟩ := hls
  cases e9
  obtain rfl : 1 = ll := by simpa using h1
  obtain ⟨bq, o, sx, eA, hbs, _, hc0, hc1, hc2, hlx⟩ := lsP_get h5 0 (by simp)
  subst eA
  simp only [List.getElem_cons_zero, Nat.zero_mul, Nat.add_zero] at hc0 hc1 hc2 hlx
  have hbB := (below_lit w (.cells #[.int .i64 2, .int .i64 0, .string ⟨#[]⟩, .slice (some ⟨bq, o, none⟩) 1 lc, .slice sa sl sc, .int .i64 d] 62)).trans ((below_lit (w.alloc (.cells #[.int .i64 2, .int .i64 0, .string ⟨#[]⟩, .slice (some ⟨bq, o, none⟩) 1 lc, .slice sa sl sc, .int .i64 d] 62)) (.cells #[.int .i64 0, .int .i64 0, .string ⟨#[]⟩, .slice none 0 0, .slice none 0 0] 25)).mono (below_lit w _).size)
  have e0 := (hbB.cell (p := ⟨bq, _, none⟩) hbs).trans hc0
  have e1 := (hbB.cell (p := ⟨bq, _, none⟩) hbs).trans hc1
  have e2 := (hbB.cell (p := ⟨bq, _, none⟩) hbs).trans hc2
  have HX := Lib.hid hlx
  have HBS := Lib.hid hbs
  obtain ⟨ka, hka⟩ : ∃ q, kindOf lv = q := ⟨_, rfl⟩
  obtain ⟨na, hna⟩ : ∃ q, numOf lv = q := ⟨_, rfl⟩
  have HKA := Lib.hid (And.intro hka hna)
  rw [hka] at e0
  rw [hna] at e1
  clear hc0 hc1 hc2 hlx h5 hbB hka hna
  go_enter Tryz.func43, Tryz.ntmps43
  go_wp2_with fail
  have z1 : (w.alloc (.cells #[.int .i64 2, .int .i64 0, .string ⟨#[]⟩, .slice (some ⟨bq, o, none⟩) 1 lc, .slice sa sl sc, .int .i64 d] 62)).heap.size = w.heap.size + 1 := by simp
  have z2 : ((w.alloc (.cells #[.int .i64 2, .int .i64 0, .string ⟨#[]⟩, .slice (some ⟨bq, o, none⟩) 1 lc, .slice sa sl sc, .int .i64 d] 62)).alloc (.cells #[.int .i64 0, .int .i64 0, .string ⟨#[]⟩, .slice none 0 0, .slice none 0 0] 25)).heap.size = w.heap.size + 1 + 1 := by simp
  have r0 : (w.alloc (.cells #[.int .i64 2, .int .i64 0, .string ⟨#[]⟩, .slice (some ⟨bq, o, none⟩) 1 lc, .slice sa sl sc, .int .i64 d] 62)).heap[w.heap.size]? = some (Obj.cells #[.int .i64 2, .int .i64 0, .string ⟨#[]⟩, .slice (some ⟨bq, o, none⟩) 1 lc, .slice sa sl sc, .int .i64 d] 62 (0, 0)) := by
   have := heap_alloc_new w (.cells #[.int .i64 2, .int .i64 0, .string ⟨#[]⟩, .slice (some ⟨bq, o, none⟩) 1 lc, .slice sa sl sc, .int .i64 d] 62)
   exact this
  have r1 : ((w.alloc (.cells #[.int .i64 2, .int .i64 0, .string ⟨#[]⟩, .slice (some ⟨bq, o, none⟩) 1 lc, .slice sa sl sc, .int .i64 d] 62)).alloc (.cells #[.int .i64 0, .int .i64 0, .string ⟨#[]⟩, .slice none 0 0, .slice none 0 0] 25)).heap[w.heap.size + 1]? = some (Obj.cells #[.int .i64 0, .int .i64 0, .string ⟨#[]⟩, .slice none 0 0, .slice none 0 0] 25 (0, 0)) := by
   have := heap_alloc_new (w.alloc (.cells #[.int .i64 2, .int .i64 0, .string ⟨#[]⟩, .slice (some ⟨bq, o, none⟩) 1 lc, .slice sa sl sc, .int .i64 d] 62)) (.cells #[.int .i64 0, .int .i64 0, .string ⟨#[]⟩, .slice none 0 0, .slice none 0 0] 25)
   rwa [z1] at this
  have HB := Lib.hid ((below_lit w (.cells #[.int .i64 2, .int .i64 0, .string ⟨#[]⟩, .slice (some ⟨bq, o, none⟩) 1 lc, .slice sa sl sc, .int .i64 d] 62)).trans ((below_lit (w.alloc (.cells #[.int .i64 2, .int .i64 0, .string ⟨#[]⟩, .slice (some ⟨bq, o, none⟩) 1 lc, .slice sa sl sc, .int .i64 d] 62)) (.cells #[.int .i64 0, .int .i64 0, .string ⟨#[]⟩, .slice none 0 0, .slice none 0 0] 25)).mono (below_lit w (.cells #[.int .i64 2, .int .i64 0, .string ⟨#[]⟩, .slice (some ⟨bq, o, none⟩) 1 lc, .slice sa sl sc, .int .i64 d] 62)).size))
  have HRL := Lib.hid ((heap_alloc_old (w.alloc (.cells #[.int .i64 2, .int .i64 0, .string ⟨#[]⟩, .slice (some ⟨bq, o, none⟩) 1 lc, .slice sa sl sc, .int .i64 d] 62)) (.cells #[.int .i64 0, .int .i64 0, .string ⟨#[]⟩, .slice none 0 0, .slice none 0 0] 25) (by rw [z1]; omega)).trans (r0))
  have HRB := Lib.hid (r1)
  clear r0 r1
  generalize ((w.alloc (.cells #[.int .i64 2, .int .i64 0, .string ⟨#[]⟩, .slice (some ⟨bq, o, none⟩) 1 lc, .slice sa sl sc, .int .i64 d] 62)).alloc (.cells #[.int .i64 0, .int .i64 0, .string ⟨#[]⟩, .slice none 0 0, .slice none 0 0] 25)) = W at *
  have HZ := Lib.hid z2
  clear z1 z2
  have hz := HZ.out
  refine (sort_is lv (.agg #[.int .i64 ka, .int .i64 na, sx]) W ⟨sx, by rw [← HKA.out.1, ← HKA.out.2], lvS_below HB.out _ _ (lvS_of _ _ HX.out)⟩ (HLV.out lv (by simp))).mono ?_
  rintro e w9 ⟨l9, s9, rfl, ht9, hb9⟩
  obtain ⟨⟨ua, ul, uc, rfl⟩, va, vl, vc, rfl⟩ := tmP_slices ht9
  have HT9 := Lib.hid ht9
  have hrz := (hb9.block (w.heap.size + 1) (Array.getElem?_eq_some_iff.1 HRB.out).1).trans HRB.out
  have HB9 := Lib.hid (HB.out.trans (hb9.mono HB.out.size))
  have HS9 := Lib.hid (Array.getElem?_eq_some_iff.1 HRB.out).1
  clear ht9 hb9
  dsimp only [tv, tkOf, tnOf, tmOf]
  obtain ⟨e0, e1, e2, e3, e4⟩ := five_cells hrz
  have g0 := frozen0 (p := 0) hrz
  have g1 := frozen0 (p := 1) hrz
  have g2 := frozen0 (p := 2) hrz
  have g3 := frozen0 (p := 3) hrz
  have g4 := frozen0 (p := 4) hrz
  go_wp2_with fail
  refine bodyPost_ret (results_cell_row rfl _ _ (w.heap.size + 1) 25 _ (0, 0) _ rfl (set5_row hrz) Tryz.underlying25 rfl (by rw [hi0, Option.map_some, hz1]; rfl)) rfl ?_
  refine ⟨_, _, rfl, tmP_move (w := w9) (fun b hlt (hp : W.heap.size ≤ b) => ⟨by have := HS9.out; omega, set5_far' w9 (w.heap.size + 1) 0 b _ _ _ _ _ (by have := HS9.out; omega)⟩) (Nat.le_of_eq (set5_sz w9 (w.heap.size + 1) 0 _ _ _ _ _).symm) _ _ _ HT9.out, set5_below HB9.out _ 0 _ _ _ _ _ (by omega)⟩
 ·clear hok
  go_enter Tryz.func43, Tryz.ntmps43
  go_wp2_with fail
  have z1 : (w.alloc (.cells #[.int .i64 3, .int .i64 0, .string m, .slice la ll lc, .slice sa sl sc, .int .i64 d] 62)).heap.size = w.heap.size + 1 := by simp
  have z2 : ((w.alloc (.cells #[.int .i64 3, .int .i64 0, .string m, .slice la ll lc, .slice sa sl sc, .int .i64 d] 62)).alloc (.cells #[.int .i64 0, .int .i64 0, .string ⟨#[]⟩, .slice none 0 0, .slice none 0 0] 25)).heap.size = w.heap.size + 1 + 1 := by simp
  have r0 : (w.alloc (.cells #[.int .i64 3, .int .i64 0, .string m, .slice la ll lc, .slice sa sl sc, .int .i64 d] 62)).heap[w.heap.size]? = some (Obj.cells #[.int .i64 3, .int .i64 0, .string m, .slice la ll lc, .slice sa sl sc, .int .i64 d] 62 (0, 0)) := by
   have := heap_alloc_new w (.cells #[.int .i64 3, .int .i64 0, .string m, .slice la ll lc, .slice sa sl sc, .int .i64 d] 62)
   exact this
  have r1 : ((w.alloc (.cells #[.int .i64 3, .int .i64 0, .string m, .slice la ll lc, .slice sa sl sc, .int .i64 d] 62)).alloc (.cells #[.int .i64 0, .int .i64 0, .string ⟨#[]⟩, .slice none 0 0, .slice none 0 0] 25)).heap[w.heap.size + 1]? = some (Obj.cells #[.int .i64 0, .int .i64 0, .string ⟨#[]⟩, .slice none 0 0, .slice none 0 0] 25 (0, 0)) := by
   have := heap_alloc_new (w.alloc (.cells #[.int .i64 3, .int .i64 0, .string m, .slice la ll lc, .slice sa sl sc, .int .i64 d] 62)) (.cells #[.int .i64 0, .int .i64 0, .string ⟨#[]⟩, .slice none 0 0, .slice none 0 0] 25)
   rwa [z1] at this
  have HB := Lib.hid ((below_lit w (.cells #[.int .i64 3, .int .i64 0, .string m, .slice la ll lc, .slice sa sl sc, .int .i64 d] 62)).trans ((below_lit (w.alloc (.cells #[.int .i64 3, .int .i64 0, .string m, .slice la ll lc, .slice sa sl sc, .int .i64 d] 62)) (.cells #[.int .i64 0, .int .i64 0, .string ⟨#[]⟩, .slice none 0 0, .slice none 0 0] 25)).mono (below_lit w (.cells #[.int .i64 3, .int .i64 0, .string m, .slice la ll lc, .slice sa sl sc, .int .i64 d] 62)).size))
  have HRL := Lib.hid ((heap_alloc_old (w.alloc (.cells #[.int .i64 3, .int .i64 0, .string m, .slice la ll lc, .slice sa sl sc, .int .i64 d] 62)) (.cells #[.int .i64 0, .int .i64 0, .string ⟨#[]⟩, .slice none 0 0, .slice none 0 0] 25) (by rw [z1]; omega)).trans (r0))
  have HRB := Lib.hid (r1)
  clear r0 r1
  generalize ((w.alloc (.cells #[.int .i64 3, .int .i64 0, .string m, .slice la ll lc, .slice sa sl sc, .int .i64 d] 62)).alloc (.cells #[.int .i64 0, .int .i64 0, .string ⟨#[]⟩, .slice none 0 0, .slice none 0 0] 25)) = W at *
  have HZ := Lib.hid z2
  clear z1 z2
  have hz := HZ.out
  refine (const_is m ls _ W (fun _ => True) (lvP_move (w := w) (fun b hlt _ => ⟨trivial, HB.out.block b hlt⟩) HB.out.size _ _ HL.out) (by omega) HLV.out).mono ?_
  rintro e w9 ⟨l9, s9, rfl, ht9, hb9⟩
  obtain ⟨⟨ua, ul, uc, rfl⟩, va, vl, vc, rfl⟩ := tmP_slices ht9
  have HT9 := Lib.hid ht9
  have hrz := (hb9.block (w.heap.size + 1) (Array.getElem?_eq_some_iff.1 HRB.out).1).trans HRB.out
  have HB9 := Lib.hid (HB.out.trans (hb9.mono HB.out.size))
  have HS9 := Lib.hid (Array.getElem?_eq_some_iff.1 HRB.out).1
  clear ht9 hb9
  dsimp only [tv, tkOf, tnOf, tmOf]
  obtain ⟨e0, e1, e2, e3, e4⟩ := five_cells hrz
  have g0 := frozen0 (p := 0) hrz
  have g1 := frozen0 (p := 1) hrz
  have g2 := frozen0 (p := 2) hrz
  have g3 := frozen0 (p := 3) hrz
  have g4 := frozen0 (p := 4) hrz
  go_wp2_with fail
  refine bodyPost_ret (results_cell_row rfl _ _ (w.heap.size + 1) 25 _ (0, 0) _ rfl (set5_row hrz) Tryz.underlying25 rfl (by rw [hi0, Option.map_some, hz1]; rfl)) rfl ?_
  refine ⟨_, _, rfl, tmP_move (w := w9) (fun b hlt (hp : W.heap.size ≤ b) => ⟨by have := HS9.out; omega, set5_far' w9 (w.heap.size + 1) 0 b _ _ _ _ _ (by have := HS9.out; omega)⟩) (Nat.le_of_eq (set5_sz w9 (w.heap.size + 1) 0 _ _ _ _ _).symm) _ _ _ HT9.out, set5_below HB9.out _ 0 _ _ _ _ _ (by omega)⟩
set_option maxRecDepth 100000 in
set_option maxHeartbeats 4000000 in
theorem braised_is (by' fr : Int) (w : World) :
  Calls Tryz.prog 40 #[.int .i64 by', .int .i64 fr] w (fun e w' => e = .returned (.func (.func 67) #[] #[.pointer (some ⟨w.heap.size + 1, 0, none⟩), .pointer (some ⟨w.heap.size, 0, none⟩)]) ∧ w'.cell? ⟨w.heap.size + 1, 0, none⟩ = some (.int .i64 fr) ∧ w'.cell? ⟨w.heap.size, 0, none⟩ = some (.int .i64 by') ∧ w'.heap.size = w.heap.size + 2 ∧ Below w.heap.size w w') := by
 go_enter Tryz.func40, Tryz.ntmps40
 go_wp2_with fail
 have z1 : (w.alloc (.cells #[.int .i64 by'] 3)).heap.size = w.heap.size + 1 := by simp
 have z2 : ((w.alloc (.cells #[.int .i64 by'] 3)).alloc (.cells #[.int .i64 fr] 3)).heap.size = w.heap.size + 1 + 1 := by simp
 have r0 : (w.alloc (.cells #[.int .i64 by'] 3)).heap[w.heap.size]? = some (Obj.cells #[.int .i64 by'] 3 (0, 0)) := by
  have := heap_alloc_new w (.cells #[.int .i64 by'] 3)
  exact this
 have r1 : ((w.alloc (.cells #[.int .i64 by'] 3)).alloc (.cells #[.int .i64 fr] 3)).heap[w.heap.size + 1]? = some (Obj.cells #[.int .i64 fr] 3 (0, 0)) := by
  have := heap_alloc_new (w.alloc (.cells #[.int .i64 by'] 3)) (.cells #[.int .i64 fr] 3)
  rwa [z1] at this
 have HB := Lib.hid ((below_lit w (.cells #[.int .i64 by'] 3)).trans ((below_lit (w.alloc (.cells #[.int .i64 by'] 3)) (.cells #[.int .i64 fr] 3)).mono (below_lit w (.cells #[.int .i64 by'] 3)).size))
 have HR0 := Lib.hid ((heap_alloc_old (w.alloc (.cells #[.int .i64 by'] 3)) (.cells #[.int .i64 fr] 3) (by rw [z1]; omega)).trans (r0))
 have HR1 := Lib.hid (r1)
 clear r0 r1
 generalize ((w.alloc (.cells #[.int .i64 by'] 3)).alloc (.cells #[.int .i64 fr] 3)) = W at *
 have HZ := Lib.hid z2
 clear z1 z2
 go_ret
 exact ⟨rfl, cell_of_row _ _ 0 _ 3 (0, 0) HR1.out, cell_of_row _ _ 0 _ 3 (0, 0) HR0.out, HZ.out, HB.out⟩
set_option maxRecDepth 100000 in
set_option maxHeartbeats 4000000 in
theorem put_raised (RN : ByteArray → Bool) (w0 : World) (Bf Bb : Nat) (by' fr : Int) (hb0 : -2000000 ≤ by') (hb1 : by' ≤ 2000000) (hcf : w0.cell? ⟨Bf, 0, none⟩ = some (.int .i64 fr)) (hcb : w0.cell? ⟨Bb, 0, none⟩ = some (.int .i64 by')) :
  PutC w0 67 #[.pointer (some ⟨Bf, 0, none⟩), .pointer (some ⟨Bb, 0, none⟩)] (raF by' fr) (cRa RN) := by
 intro w1 k n m ls l sa sc d hbw hl hd hC
 obtain ⟨i0, hi0, hz0, hz1, hz2⟩ := info_parts infoTm
 obtain ⟨K, hK, hok, _⟩ := hC
 have HL := Lib.hid hl
 obtain ⟨la, ll, lc, rfl⟩ := lvP_slice hl
 have hn1 : k = 1 → -4503599627370496 ≤ n ∧ n ≤ 4503599627370496 ∧ m = ⟨#[]⟩ ∧ ls = [] := fun e => by
  rcases ok_leaf hok with ⟨_, h0, h1, h2, h3⟩ | ⟨h0, _⟩ | ⟨h0, _⟩
  ·exact ⟨by omega, by omega, h2, h3⟩
  ·omega
  ·omega
 have HOK := Lib.hid hok
 have HN1 := Lib.hid hn1
 have HCF := Lib.hid (And.intro ((hbw.cell (p := ⟨Bf, 0, none⟩) (World.block_lt_of_cell? w0 ⟨Bf, 0, none⟩ hcf)).trans hcf) (And.intro ((hbw.cell (p := ⟨Bb, 0, none⟩) (World.block_lt_of_cell? w0 ⟨Bb, 0, none⟩ hcb)).trans hcb) (And.intro (World.block_lt_of_cell? w1 ⟨Bf, 0, none⟩ ((hbw.cell (p := ⟨Bf, 0, none⟩) (World.block_lt_of_cell? w0 ⟨Bf, 0, none⟩ hcf)).trans hcf)) (World.block_lt_of_cell? w1 ⟨Bb, 0, none⟩ ((hbw.cell (p := ⟨Bb, 0, none⟩) (World.block_lt_of_cell? w0 ⟨Bb, 0, none⟩ hcb)).trans hcb)))))
 clear hl hok hn1 hcf hcb hbw
 show Calls Tryz.prog 67 #[.agg #[.int .i64 k, .int .i64 n, .string m, .slice la ll lc, .slice sa 0 sc, .int .i64 d], .pointer (some ⟨Bf, 0, none⟩), .pointer (some ⟨Bb, 0, none⟩)] w1 _
 obtain ⟨w, rfl⟩ : ∃ w, w = w1 := ⟨_, rfl⟩
 go_enter Tryz.func67, Tryz.ntmps67
 go_wp2_with fail
 have z1 : (w.alloc (.cells #[.int .i64 k, .int .i64 n, .string m, .slice la ll lc, .slice sa 0 sc, .int .i64 d] 62)).heap.size = w.heap.size + 1 := by simp
 have z2 : ((w.alloc (.cells #[.int .i64 k, .int .i64 n, .string m, .slice la ll lc, .slice sa 0 sc, .int .i64 d] 62)).alloc (.cells #[.int .i64 0, .int .i64 0, .string ⟨#[]⟩, .slice none 0 0, .slice none 0 0] 25)).heap.size = w.heap.size + 1 + 1 := by simp
 have r0 : (w.alloc (.cells #[.int .i64 k, .int .i64 n, .string m, .slice la ll lc, .slice sa 0 sc, .int .i64 d] 62)).heap[w.heap.size]? = some (Obj.cells #[.int .i64 k, .int .i64 n, .string m, .slice la ll lc, .slice sa 0 sc, .int .i64 d] 62 (0, 0)) := by
  have := heap_alloc_new w (.cells #[.int .i64 k, .int .i64 n, .string m, .slice la ll lc, .slice sa 0 sc, .int .i64 d] 62)
  exact this
 have r1 : ((w.alloc (.cells #[.int .i64 k, .int .i64 n, .string m, .slice la ll lc, .slice sa 0 sc, .int .i64 d] 62)).alloc (.cells #[.int .i64 0, .int .i64 0, .string ⟨#[]⟩, .slice none 0 0, .slice none 0 0] 25)).heap[w.heap.size + 1]? = some (Obj.cells #[.int .i64 0, .int .i64 0, .string ⟨#[]⟩, .slice none 0 0, .slice none 0 0] 25 (0, 0)) := by
  have := heap_alloc_new (w.alloc (.cells #[.int .i64 k, .int .i64 n, .string m, .slice la ll lc, .slice sa 0 sc, .int .i64 d] 62)) (.cells #[.int .i64 0, .int .i64 0, .string ⟨#[]⟩, .slice none 0 0, .slice none 0 0] 25)
  rwa [z1] at this
 have HB := Lib.hid ((below_lit w (.cells #[.int .i64 k, .int .i64 n, .string m, .slice la ll lc, .slice sa 0 sc, .int .i64 d] 62)).trans ((below_lit (w.alloc (.cells #[.int .i64 k, .int .i64 n, .string m, .slice la ll lc, .slice sa 0 sc, .int .i64 d] 62)) (.cells #[.int .i64 0, .int .i64 0, .string ⟨#[]⟩, .slice none 0 0, .slice none 0 0] 25)).mono (below_lit w (.cells #[.int .i64 k, .int .i64 n, .string m, .slice la ll lc, .slice sa 0 sc, .int .i64 d] 62)).size))
 have HRL := Lib.hid ((heap_alloc_old (w.alloc (.cells #[.int .i64 k, .int .i64 n, .string m, .slice la ll lc, .slice sa 0 sc, .int .i64 d] 62)) (.cells #[.int .i64 0, .int .i64 0, .string ⟨#[]⟩, .slice none 0 0, .slice none 0 0] 25) (by rw [z1]; omega)).trans (r0))
 have HRB := Lib.hid (r1)
 clear r0 r1
 generalize ((w.alloc (.cells #[.int .i64 k, .int .i64 n, .string m, .slice la ll lc, .slice sa 0 sc, .int .i64 d] 62)).alloc (.cells #[.int .i64 0, .int .i64 0, .string ⟨#[]⟩, .slice none 0 0, .slice none 0 0] 25)) = W at *
 have HZ := Lib.hid z2
 clear z1 z2
 have hz := HZ.out
 obtain ⟨b, hb⟩ : ∃ b, decide (k = 1 ∧ (d : Int) ≤ n) = b := ⟨_, rfl⟩
 obtain ⟨r, hr⟩ : ∃ r, (if b = true then n - d else 0) = r := ⟨_, rfl⟩
 have HLO := Lib.hid (lloose_is k n m la ll lc sa 0 sc d W (fun e => ⟨(HN1.out e).1, (HN1.out e).2.1⟩) hd b hb r hr)
 have HBR := Lib.hid (And.intro hb hr)
 clear hb hr
 refine HLO.out.mono ?_
 rintro e w2 ⟨rfl, hb2⟩
 have HB2 := Lib.hid (HB.out.trans (hb2.mono HB.out.size))
 have hrl := (hb2.block w.heap.size (by omega)).trans HRL.out
 have hrb := (hb2.block (w.heap.size + 1) (by omega)).trans HRB.out
 have HRL2 := Lib.hid hrl
 obtain ⟨a0, a1, a2, a3, a4, a5⟩ := six_cells hrl
 have hf2 := (HB2.out.cell (p := ⟨Bf, 0, none⟩) HCF.out.2.2.1).trans HCF.out.1
 have hc2 := (HB2.out.cell (p := ⟨Bb, 0, none⟩) HCF.out.2.2.2).trans HCF.out.2.1
 clear HRB hb2
 have HRB := Lib.hid hrb
 clear hrl hrb HLO
 cases b with
 | false =>
  have hF : Hid (raF by' fr (.mk k n m ls []) d = .mk k n m ls []) := by
   have : raF by' fr (.mk k n m ls []) d = .mk k n m ls [] := by
    rw [raF, if_neg]
    intro h
    have := HBR.out.1
    simp [h.1, h.2.1] at this
   exact this
  go_wp2_with fail
  refine (lown_is RN k n m ls _ sa 0 sc d K w2 (lvP_move (w := w) (fun b hlt _ => ⟨trivial, HB2.out.block b hlt⟩) HB2.out.size _ _ HL.out) HOK.out).mono ?_
  rintro e w9 ⟨l9, s9, rfl, ht9, hb9⟩
  obtain ⟨⟨ua, ul, uc, rfl⟩, va, vl, vc, rfl⟩ := tmP_slices ht9
  have HT9 := Lib.hid ht9
  have hrz := (hb9.block (w.heap.size + 1) (Array.getElem?_eq_some_iff.1 HRB.out).1).trans HRB.out
  have HB9 := Lib.hid (HB2.out.trans (hb9.mono HB2.out.size))
  have HS9 := Lib.hid (Array.getElem?_eq_some_iff.1 HRB.out).1
  clear ht9 hb9
  clear a0 a1 a2 a3 a4 a5 hf2 hc2
  dsimp only [tv, tkOf, tnOf, tmOf]
  obtain ⟨e0, e1, e2, e3, e4⟩ := five_cells hrz
  have g0 := frozen0 (p := 0) hrz
  have g1 := frozen0 (p := 1) hrz
  have g2 := frozen0 (p := 2) hrz
  have g3 := frozen0 (p := 3) hrz
  have g4 := frozen0 (p := 4) hrz
  go_wp2_with fail
  refine bodyPost_ret (results_cell_row rfl _ _ (w.heap.size + 1) 25 _ (0, 0) _ rfl (set5_row hrz) Tryz.underlying25 rfl (by rw [hi0, Option.map_some, hz1]; rfl)) rfl ?_
  rw [hF.out]
  refine ⟨_, _, rfl, tmP_move (w := w9) (fun b hlt (hp : w2.heap.size ≤ b) => ⟨by have := HS9.out; omega, set5_far' w9 (w.heap.size + 1) 0 b _ _ _ _ _ (by have := HS9.out; omega)⟩) (Nat.le_of_eq (set5_sz w9 (w.heap.size + 1) 0 _ _ _ _ _).symm) _ _ _ HT9.out, set5_below HB9.out _ 0 _ _ _ _ _ (by omega)⟩
 | true =>
  have hkn : k = 1 ∧ (d : Int) ≤ n := of_decide_eq_true HBR.out.1
  have hrr : n - d = r := by have := HBR.out.2; rw [if_pos rfl] at this; exact this
  have hnn := HN1.out hkn.1
  have HKN := Lib.hid hkn
  have HRR := Lib.hid hrr
  by_cases hfr : fr ≤ r
  ·have c1 : decide (fr ≤ r) = true := by simp; omega
   have hF : Hid (raF by' fr (.mk k n m ls []) d = tvr (n + by')) := by
    have : raF by' fr (.mk k n m ls []) d = tvr (n + by') := by rw [raF, if_pos ⟨hkn.1, hkn.2, by omega⟩]
    exact this
   have hw : IntKind.i64.wrap (n + by') = n + by' := IntWalk.i64_in _ ⟨by omega, by omega⟩
   clear hkn hrr hnn
   go_wp2_with fail
   refine (var_is (n + by') w2).mono ?_
   rintro e w9 ⟨l9, s9, rfl, ht9, hb9⟩
   obtain ⟨⟨ua, ul, uc, rfl⟩, va, vl, vc, rfl⟩ := tmP_slices ht9
   have HT9 := Lib.hid ht9
   have hrz := (hb9.block (w.heap.size + 1) (Array.getElem?_eq_some_iff.1 HRB.out).1).trans HRB.out
   have HB9 := Lib.hid (HB2.out.trans (hb9.mono HB2.out.size))
   have HS9 := Lib.hid (Array.getElem?_eq_some_iff.1 HRB.out).1
   clear ht9 hb9
   clear a0 a1 a2 a3 a4 a5 hf2 hc2
   dsimp only [tv, tkOf, tnOf, tmOf]
   obtain ⟨e0, e1, e2, e3, e4⟩ := five_cells hrz
   have g0 := frozen0 (p := 0) hrz
   have g1 := frozen0 (p := 1) hrz
   have g2 := frozen0 (p := 2) hrz
   have g3 := frozen0 (p := 3) hrz
   have g4 := frozen0 (p := 4) hrz
   go_wp2_with fail
   refine bodyPost_ret (results_cell_row rfl _ _ (w.heap.size + 1) 25 _ (0, 0) _ rfl (set5_row hrz) Tryz.underlying25 rfl (by rw [hi0, Option.map_some, hz1]; rfl)) rfl ?_
   rw [hF.out]
   refine ⟨_, _, rfl, tmP_move (w := w9) (fun b hlt (hp : w2.heap.size ≤ b) => ⟨by have := HS9.out; omega, set5_far' w9 (w.heap.size + 1) 0 b _ _ _ _ _ (by have := HS9.out; omega)⟩) (Nat.le_of_eq (set5_sz w9 (w.heap.size + 1) 0 _ _ _ _ _).symm) _ _ _ HT9.out, set5_below HB9.out _ 0 _ _ _ _ _ (by omega)⟩
  ·have c1 : decide (fr ≤ r) = false := by simp; omega
   have hF : Hid (raF by' fr (.mk k n m ls []) d = .mk k n m ls []) := by
    have : raF by' fr (.mk k n m ls []) d = .mk k n m ls [] := by
     rw [raF, if_neg]
     intro h
     omega
    exact this
   clear hkn hrr hnn
   go_wp2_with fail
   refine (lown_is RN k n m ls _ sa 0 sc d K w2 (lvP_move (w := w) (fun b hlt _ => ⟨trivial, HB2.out.block b hlt⟩) HB2.out.size _ _ HL.out) HOK.out).mono ?_
   rintro e w9 ⟨l9, s9, rfl, ht9, hb9⟩
   obtain ⟨⟨ua, ul, uc, rfl⟩, va, vl, vc, rfl⟩ := tmP_slices ht9
   have HT9 := Lib.hid ht9
   have hrz := (hb9.block (w.heap.size + 1) (Array.getElem?_eq_some_iff.1 HRB.out).1).trans HRB.out
   have HB9 := Lib.hid (HB2.out.trans (hb9.mono HB2.out.size))
   have HS9 := Lib.hid (Array.getElem?_eq_some_iff.1 HRB.out).1
   clear ht9 hb9
   clear a0 a1 a2 a3 a4 a5 hf2 hc2
   dsimp only [tv, tkOf, tnOf, tmOf]
   obtain ⟨e0, e1, e2, e3, e4⟩ := five_cells hrz
   have g0 := frozen0 (p := 0) hrz
   have g1 := frozen0 (p := 1) hrz
   have g2 := frozen0 (p := 2) hrz
   have g3 := frozen0 (p := 3) hrz
   have g4 := frozen0 (p := 4) hrz
   go_wp2_with fail
   refine bodyPost_ret (results_cell_row rfl _ _ (w.heap.size + 1) 25 _ (0, 0) _ rfl (set5_row hrz) Tryz.underlying25 rfl (by rw [hi0, Option.map_some, hz1]; rfl)) rfl ?_
   rw [hF.out]
   refine ⟨_, _, rfl, tmP_move (w := w9) (fun b hlt (hp : w2.heap.size ≤ b) => ⟨by have := HS9.out; omega, set5_far' w9 (w.heap.size + 1) 0 b _ _ _ _ _ (by have := HS9.out; omega)⟩) (Nat.le_of_eq (set5_sz w9 (w.heap.size + 1) 0 _ _ _ _ _).symm) _ _ _ HT9.out, set5_below HB9.out _ 0 _ _ _ _ _ (by omega)⟩
set_option maxRecDepth 100000 in
theorem isFar_is (n : Int) (w : World) (b : Bool) (hb : decide (n < 0 ∨ 1048576 < n) = b) : Calls Tryz.prog 37 #[.int .i64 n] w (Ret w (.bool b)) := by
 by_cases h0 : n < 0
 ·have c0 : decide (n < 0) = true := by simp; omega
  obtain rfl : b = true := by rw [← hb]; simp [h0]
  clear hb
  go_enter Tryz.func37, Tryz.ntmps37
  go_wp2_with fail
  go_ret
  exact ⟨rfl, Below.refl _ _⟩
 ·have c0 : decide (n < 0) = false := by simp; omega
  obtain rfl : b = decide (1048576 < n) := by rw [← hb]; simp [h0]
  by_cases h1 : 1048576 < n
  ·have c1 : decide (1048576 < n) = true := by simp; omega
   go_enter Tryz.func37, Tryz.ntmps37
   go_wp2_with fail
   go_ret
   exact ⟨by first | rfl | (rw [c1]; rfl), Below.refl _ _⟩
  ·have c1 : decide (1048576 < n) = false := by simp; omega
   go_enter Tryz.func37, Tryz.ntmps37
   go_wp2_with fail
   go_ret
   exact ⟨by first | rfl | (rw [c1]; rfl), Below.refl _ _⟩
end Bnd
end Go.Proofs.YteomfakbbcpckaaGreatDoor
namespace Go.Proofs.YteomfakbbcpckaaGreatDoor
open Go.RowKit
open Lvl
open Trm
namespace Bnd
set_option maxRecDepth 100000 in
set_option maxHeartbeats 2000000 in
theorem made_gen (fid : Nat) (lb : Array Value) (w0 : World) (Bm : Nat) (F : Tm → Nat → Tm) (C : Tm → Nat → Prop) (HEN : Hid (∀ args w, (callFunc fid args).run Tryz.prog w = .ok (.enter fid args) w)) (HPC : Hid (PutC w0 fid lb F C)) (HF : Hid (∀ l d, C l d → tnodes (F l d) ≤ 100000)) (hBm : w0.heap.size ≤ Bm) : ∀ (N : Nat) (t : Tm) (d : Nat) (r : Int) (l s : Value) (w : World), tnodes t ≤ N → d + N ≤ 1000000 → allT C t d → TmP w0 (fun _ => True) t l s → Below w0.heap.size w0 w → MkB w Bm (.func (.func fid) #[] lb) r → 0 ≤ r → r ≤ 2000 →
  Calls Tryz.prog 66 #[.pointer (some ⟨Bm, 0, none⟩), tv t l s, .int .i64 d] w (MadeRet Bm (.func (.func fid) #[] lb) w r (subT F t d)) := by
 intro N
 induction N with
 | zero => intro t _ _ _ _ _ h; have := tnodes_pos t; omega
 | succ N ih =>
 intro t d r l s w hN hd hall ht hb0 hmk hr0 hr1
 obtain ⟨i0, hi0, hz0, hz1, hz2⟩ := info_parts infoTm
 obtain ⟨⟨la, ll, lc, rfl⟩, sa, sl, sc, rfl⟩ := tmP_slices ht
 cases t with
 | mk k n m ls ts =>
 rw [TmP] at ht
 obtain ⟨hls, A', len', cap', e9, hlen, hlc', hl47, hnone, hts⟩ := ht
 cases e9
 rw [allT] at hall
 have IH := Lib.hid ih
 have HTS := Lib.hid hts
 have HLS := Lib.hid hls
 have HLEN := Lib.hid hlen
 have HALL := Lib.hid hall
 have HB0 := Lib.hid hb0
 have HMK := Lib.hid hmk
 have HTN : Hid (tnodesL ts ≤ N) := by
  rw [tnodes] at hN
  have : tnodesL ts ≤ N := by omega
  exact this
 have hBl : Bm < w.heap.size := (Array.getElem?_eq_some_iff.1 hmk).1
 have hd6 : d ≤ 1000000 := by omega
 clear hts hls hlen hall hN ih hb0 hmk
 show Calls Tryz.prog 66 #[.pointer (some ⟨Bm, 0, none⟩), .agg #[.int .i64 k, .int .i64 n, .string m, .slice la ll lc, .slice sa sl sc], .int .i64 d] w _
 by_cases hs0 : sl = 0
 ·subst hs0
  obtain rfl : ts = [] := List.length_eq_zero_iff.1 HLEN.out
  obtain ⟨U, hU⟩ : ∃ U, F (.mk k n m ls []) d = U := ⟨_, rfl⟩
  have HC := Lib.hid (HALL.out.1 List.length_nil)
  have hUN := HF.out _ _ HC.out
  rw [hU] at hUN
  have HSUB : Hid (subT F (.mk k n m ls []) d = U) := by
   have : subT F (.mk k n m ls []) d = U := by rw [subT, if_pos List.length_nil, hU]
   exact this
  rw [HSUB.out]
  go_enter Tryz.func66, Tryz.ntmps66
  go_wp2_with fail
  have z1 : (w.alloc (.cells #[.int .i64 k, .int .i64 n, .string m, .slice la ll lc, .slice sa 0 sc] 25)).heap.size = w.heap.size + 1 := by simp
  have z2 : ((w.alloc (.cells #[.int .i64 k, .int .i64 n, .string m, .slice la ll lc, .slice sa 0 sc] 25)).alloc (.cells #[.int .i64 0, .int .i64 0, .string ⟨#[]⟩, .slice none 0 0, .slice none 0 0] 25)).heap.size = w.heap.size + 1 + 1 := by simp
  have r0 : (w.alloc (.cells #[.int .i64 k, .int .i64 n, .string m, .slice la ll lc, .slice sa 0 sc] 25)).heap[w.heap.size]? = some (Obj.cells #[.int .i64 k, .int .i64 n, .string m, .slice la ll lc, .slice sa 0 sc] 25 (0, 0)) := by
   have := heap_alloc_new w (.cells #[.int .i64 k, .int .i64 n, .string m, .slice la ll lc, .slice sa 0 sc] 25)
   exact this
  have r1 : ((w.alloc (.cells #[.int .i64 k, .int .i64 n, .string m, .slice la ll lc, .slice sa 0 sc] 25)).alloc (.cells #[.int .i64 0, .int .i64 0, .string ⟨#[]⟩, .slice none 0 0, .slice none 0 0] 25)).heap[w.heap.size + 1]? = some (Obj.cells #[.int .i64 0, .int .i64 0, .string ⟨#[]⟩, .slice none 0 0, .slice none 0 0] 25 (0, 0)) := by
   have := heap_alloc_new (w.alloc (.cells #[.int .i64 k, .int .i64 n, .string m, .slice la ll lc, .slice sa 0 sc] 25)) (.cells #[.int .i64 0, .int .i64 0, .string ⟨#[]⟩, .slice none 0 0, .slice none 0 0] 25)
   rwa [z1] at this
  have HB := Lib.hid ((below_lit w (.cells #[.int .i64 k, .int .i64 n, .string m, .slice la ll lc, .slice sa 0 sc] 25)).trans ((below_lit (w.alloc (.cells #[.int .i64 k, .int .i64 n, .string m, .slice la ll lc, .slice sa 0 sc] 25)) (.cells #[.int .i64 0, .int .i64 0, .string ⟨#[]⟩, .slice none 0 0, .slice none 0 0] 25)).mono (below_lit w (.cells #[.int .i64 k, .int .i64 n, .string m, .slice la ll lc, .slice sa 0 sc] 25)).size))
  have HR0 := Lib.hid ((heap_alloc_old (w.alloc (.cells #[.int .i64 k, .int .i64 n, .string m, .slice la ll lc, .slice sa 0 sc] 25)) (.cells #[.int .i64 0, .int .i64 0, .string ⟨#[]⟩, .slice none 0 0, .slice none 0 0] 25) (by rw [z1]; omega)).trans (r0))
  have HR1 := Lib.hid (r1)
  clear r0 r1
  generalize ((w.alloc (.cells #[.int .i64 k, .int .i64 n, .string m, .slice la ll lc, .slice sa 0 sc] 25)).alloc (.cells #[.int .i64 0, .int .i64 0, .string ⟨#[]⟩, .slice none 0 0, .slice none 0 0] 25)) = W2 at *
  have HZ := Lib.hid z2
  clear z1 z2
  have hz := HZ.out
  have HBW := Lib.hid (HB0.out.trans (HB.out.mono HB0.out.size))
  have hw0 := HB0.out.size
  have HMW : Hid (MkB W2 Bm (.func (.func fid) #[] lb) r) := (HB.out.block Bm hBl).trans HMK.out
  have HCALL : Hid (∀ w1, Below w0.heap.size w0 w1 → Calls Tryz.prog fid (#[.agg #[.int .i64 k, .int .i64 n, .string m, .slice la ll lc, .slice sa 0 sc, .int .i64 d]] ++ lb) w1 (TmRet w1 U)) := by
   have : ∀ w1, Below w0.heap.size w0 w1 → Calls Tryz.prog fid (#[.agg #[.int .i64 k, .int .i64 n, .string m, .slice la ll lc, .slice sa 0 sc, .int .i64 d]] ++ lb) w1 (TmRet w1 U) := fun w1 h => by
    have := HPC.out w1 k n m ls (.slice la ll lc) sa sc d h (lvP_move (w := w0) (fun b hlt _ => ⟨trivial, h.block b hlt⟩) h.size _ _ HLS.out) hd6 HC.out
    rw [hU] at this
    exact this
   exact this
  obtain ⟨ku, hku⟩ : ∃ q, tkOf U = q := ⟨_, rfl⟩
  obtain ⟨nu, hnu⟩ : ∃ q, tnOf U = q := ⟨_, rfl⟩
  obtain ⟨mu, hmu⟩ : ∃ q, tmOf U = q := ⟨_, rfl⟩
  have HU := Lib.hid (And.intro hku (And.intro hnu hmu))
  have hk : Hid (∀ W', Below W2.heap.size W2 W' → W'.cell? ⟨Bm, 0, none⟩ = some (.func (.func fid) #[] lb) ∧ W'.cell? ⟨w.heap.size, 0, none⟩ = some (.int .i64 k) ∧ W'.cell? ⟨w.heap.size, 1, none⟩ = some (.int .i64 n) ∧ W'.cell? ⟨w.heap.size, 2, none⟩ = some (.string m) ∧ W'.cell? ⟨w.heap.size, 3, none⟩ = some (.slice la ll lc) ∧ W'.cell? ⟨w.heap.size, 4, none⟩ = some (.slice sa 0 sc)) := fun W' h => by
   obtain ⟨a0, a1, a2, a3, a4⟩ := five_cells ((h.block w.heap.size (by omega)).trans HR0.out)
   exact ⟨(MkB.cells ((h.block Bm (by omega)).trans HMW.out)).1, a0, a1, a2, a3, a4⟩
  clear hU hku hnu hmu HALL HTS
  refine wp_mono (Q := fun e a' W' => e = .normal ∧ ∃ (Bo : Nat) (ua : Option Addr) (ul uc : Nat) (va : Option Addr) (vl vc : Nat), (w.heap.size + 2 ≤ Bo ∧ Bo < W'.heap.size ∧ Below W2.heap.size W2 W' ∧ W'.heap[Bo]? = some (.cells #[.int .i64 ku, .int .i64 nu, .string mu, .slice ua ul uc, .slice va vl vc] 25 (0, 0)) ∧ TmP W' (fun b => w.heap.size + 2 ≤ b ∧ b ≠ Bo) U (.slice ua ul uc) (.slice va vl vc)) ∧ a' = { tmps := #[.pointer (some ⟨Bm, 0, none⟩), .agg #[.int .i64 k, .int .i64 n, .string m, .slice la ll lc, .slice sa 0 sc], .int .i64 d, undef, .pointer (some ⟨w.heap.size, 0, none⟩), undef, .pointer (some ⟨w.heap.size + 1, 0, none⟩), .pointer (some ⟨Bo, 0, none⟩), undef, undef, undef, .pointer (some ⟨w.heap.size, 4, none⟩), .slice sa 0 sc, .int .i64 0, .bool true, .pointer (some ⟨Bm, 0, none⟩), .pointer (some ⟨Bm, 0, none⟩), .pointer (some ⟨Bm, 0, none⟩), .func (.func fid) #[] lb, .agg #[.int .i64 k, .int .i64 n, .string m, .slice la ll lc, .slice sa 0 sc], .int .i64 d, .agg #[.int .i64 k, .int .i64 n, .string m, .slice la ll lc, .slice sa 0 sc, .int .i64 d], .agg #[.int .i64 ku, .int .i64 nu, .string mu, .slice ua ul uc, .slice va vl vc], undef, undef, undef, undef, undef, undef, undef, undef, undef, undef, undef, undef, undef, undef, undef, undef, undef, undef, undef, undef, undef, undef, undef, undef, undef, undef, undef, undef, undef, undef, undef, undef, undef, undef, undef, undef, undef, undef, undef, undef, undef, undef, undef, undef, undef, undef, undef, undef, undef, undef, undef], defers := [] }) ?region ?rest
  case region =>
   refine wp_region_held_drew (S := fun W' => W'.cell? ⟨Bm, 0, none⟩ = some (.func (.func fid) #[] lb) ∧ W'.cell? ⟨w.heap.size, 0, none⟩ = some (.int .i64 k) ∧ W'.cell? ⟨w.heap.size, 1, none⟩ = some (.int .i64 n) ∧ W'.cell? ⟨w.heap.size, 2, none⟩ = some (.string m) ∧ W'.cell? ⟨w.heap.size, 3, none⟩ = some (.slice la ll lc) ∧ W'.cell? ⟨w.heap.size, 4, none⟩ = some (.slice sa 0 sc)) (by kernel_rfl) (hk.out _ ((Below.refl _ _).drew)) (fun hHeld => ?_)
   refine take_in (i := 0) (v := ?_) rfl (by kernel_rfl) (by kernel_rfl) (by kernel_rfl) (fun _ _ _ h => by cases h.1) (by rfl) ?_ hHeld ?_
   rotate_left
   ·intro w hSw
    (try dsimp only at hSw)
    go_simp
    try with_reducible rfl
   try simp only [Act.put, s1q, s2q, s3q]
   refine take_in (i := 1) (v := ?_) rfl (by kernel_rfl) (by kernel_rfl) (by kernel_rfl) (fun _ _ _ h => by cases h.1) (by rfl) ?_ hHeld ?_
   rotate_left
   ·intro w hSw
    (try dsimp only at hSw)
    go_simp
    try with_reducible rfl
   try simp only [Act.put, s1q, s2q, s3q]
   refine take_in (i := 2) (v := ?_) rfl (by kernel_rfl) (by kernel_rfl) (by kernel_rfl) (fun _ _ _ h => by cases h.1) (by rfl) ?_ hHeld ?_
   rotate_left
   ·intro w hSw
    (try dsimp only at hSw)
    go_simp
    try with_reducible rfl
   try simp only [Act.put, s1q, s2q, s3q]
   refine take_in (i := 3) (v := ?_) rfl (by kernel_rfl) (by kernel_rfl) (by kernel_rfl) (fun _ _ _ h => by cases h.1) (by rfl) ?_ hHeld ?_
   rotate_left
   ·intro w hSw
    (try dsimp only at hSw)
    go_simp
    try with_reducible rfl
   try simp only [Act.put, s1q, s2q, s3q]
   refine take_in (i := 4) (v := ?_) rfl (by kernel_rfl) (by kernel_rfl) (by kernel_rfl) (fun _ _ _ h => by cases h.1) (by rfl) ?_ hHeld ?_
   rotate_left
   ·intro w hSw
    (try dsimp only at hSw)
    go_simp
    try with_reducible rfl
   try simp only [Act.put, s1q, s2q, s3q]
   refine take_in (i := 5) (v := ?_) rfl (by kernel_rfl) (by kernel_rfl) (by kernel_rfl) (fun _ _ _ h => by cases h.1) (by rfl) ?_ hHeld ?_
   rotate_left
   ·intro w hSw
    (try dsimp only at hSw)
    go_simp
    try with_reducible rfl
   try simp only [Act.put, s1q, s2q, s3q]
   refine take_in (i := 6) (v := ?_) rfl (by kernel_rfl) (by kernel_rfl) (by kernel_rfl) (fun _ _ _ h => by cases h.1) (by rfl) ?_ hHeld ?_
   rotate_left
   ·intro w hSw
    (try dsimp only at hSw)
    go_simp
    try with_reducible rfl
   try simp only [Act.put, s1q, s2q, s3q]
   refine two_in (i := 7) (j := 8) rfl rfl (by kernel_rfl) (fun K hK => ?_) (fun K hK => ?_)
   ·clear hHeld
    go_simp
    rw [HEN.out, Oper.upon_enter]
    refine (HCALL.out _ (HBW.out.trans (((Below.refl W2.heap.size W2).drew).mono HBW.out.size))).mono ?_
    rintro e w5 ⟨l9, s9, rfl, ht9, hb5⟩
    obtain ⟨⟨ua, ul, uc, rfl⟩, va, vl, vc, rfl⟩ := tmP_slices ht9
    have HT9 := Lib.hid ht9
    dsimp only [tv]
    rw [HU.out.1, HU.out.2.1, HU.out.2.2]
    have HB5 := Lib.hid ((Below.refl W2.heap.size W2).drew.trans hb5)
    clear hb5 ht9
    have hb6 := (below_lit w5 (.cells #[.int .i64 0, .int .i64 0, .string ⟨#[]⟩, .slice none 0 0, .slice none 0 0] 25))
    have n0 := heap_alloc_new w5 (.cells #[.int .i64 0, .int .i64 0, .string ⟨#[]⟩, .slice none 0 0, .slice none 0 0] 25)
    try (go_wp2_with fail)
    refine hK.out _ _ (hk.out _ HB5.out) (fun hHeld => ?_)
    clear hK K
    try simp only [Act.put, s1q, s2q, s3q]
    refine call_in (i := 8) rfl (by kernel_rfl) (fun K hK => ?_)
    clear hHeld
    go_simp
    try (go_wp2_with fail)
    refine hK.out _ _ (hk.out _ (HB5.out.trans (hb6.mono HB5.out.size))) (fun hHeld => ?_)
    clear hK K
    try simp only [Act.put, s1q, s2q, s3q]
    refine call_in (i := 9) rfl (by kernel_rfl) (fun K hK => ?_)
    clear hHeld
    go_simp
    have hb7 := below_lit w5 (.cells #[.int .i64 ku, .int .i64 nu, .string mu, .slice ua ul uc, .slice va vl vc] 25)
    refine hK.out _ _ (hk.out _ (HB5.out.trans (hb7.mono HB5.out.size))) (fun _ => ?_)
    clear hK K
    refine wpAnyH_done (by kernel_rfl) ?_ _
    have q5 := HB5.out.size
    refine ⟨rfl, w5.heap.size, ua, ul, uc, va, vl, vc, ⟨by omega, by simp, HB5.out.trans (hb7.mono HB5.out.size), heap_alloc_new w5 _, ?_⟩, rfl⟩
    exact tmP_move (fun b hlt (hp : W2.heap.size ≤ b) => ⟨⟨by omega, by omega⟩, hb7.block b hlt⟩) hb7.size _ _ _ HT9.out
   ·clear hHeld
    go_simp
    have hb3 := (below_lit W2 (.cells #[.int .i64 0, .int .i64 0, .string ⟨#[]⟩, .slice none 0 0, .slice none 0 0] 25)).drew
    have hs3 : ((W2.alloc (.cells #[.int .i64 0, .int .i64 0, .string ⟨#[]⟩, .slice none 0 0, .slice none 0 0] 25)).drew).heap.size = w.heap.size + 2 + 1 := by
     show (W2.alloc (.cells #[.int .i64 0, .int .i64 0, .string ⟨#[]⟩, .slice none 0 0, .slice none 0 0] 25)).heap.size = _
     simp [hz]
    have hr3 : ((W2.alloc (.cells #[.int .i64 0, .int .i64 0, .string ⟨#[]⟩, .slice none 0 0, .slice none 0 0] 25)).drew).heap[w.heap.size + 2]? = some (Obj.cells #[.int .i64 0, .int .i64 0, .string ⟨#[]⟩, .slice none 0 0, .slice none 0 0] 25 (0, 0)) := by
     have := heap_alloc_new W2 (.cells #[.int .i64 0, .int .i64 0, .string ⟨#[]⟩, .slice none 0 0, .slice none 0 0] 25)
     rw [hz] at this
     exact this
    have HB3 := Lib.hid hb3
    try (go_wp2_with fail)
    refine hK.out _ _ (hk.out _ HB3.out) (fun hHeld => ?_)
    clear hK K
    try simp only [Act.put, s1q, s2q, s3q]
    generalize (W2.alloc (.cells #[.int .i64 0, .int .i64 0, .string ⟨#[]⟩, .slice none 0 0, .slice none 0 0] 25)).drew = W3 at *
    have HR3 := Lib.hid hr3
    clear hr3 hb3
    refine call_in (i := 7) rfl (by kernel_rfl) (fun K hK => ?_)
    clear hHeld
    go_simp
    rw [HEN.out, Oper.upon_enter]
    refine (HCALL.out _ (HBW.out.trans (HB3.out.mono HBW.out.size))).mono ?_
    rintro e w5 ⟨l9, s9, rfl, ht9, hb5⟩
    obtain ⟨⟨ua, ul, uc, rfl⟩, va, vl, vc, rfl⟩ := tmP_slices ht9
    have HT9 := Lib.hid ht9
    dsimp only [tv]
    rw [HU.out.1, HU.out.2.1, HU.out.2.2]
    have HB5 := Lib.hid (HB3.out.trans (hb5.mono HB3.out.size))
    have hr5 := (hb5.block (w.heap.size + 2) (by rw [hs3]; omega)).trans HR3.out
    have HS5 : Hid (w.heap.size + 2 + 1 ≤ w5.heap.size) := by have := hb5.size; rw [hs3] at this; exact this
    clear hb5 ht9
    obtain ⟨n0, n1, n2, n3, n4⟩ := five_cells hr5
    have m0 := frozen0 (p := 0) hr5
    have m1 := frozen0 (p := 1) hr5
    have m2 := frozen0 (p := 2) hr5
    have m3 := frozen0 (p := 3) hr5
    have m4 := frozen0 (p := 4) hr5
    try (go_wp2_with fail)
    refine hK.out _ _ (hk.out _ HB5.out) (fun hHeld => ?_)
    clear hK K
    try simp only [Act.put, s1q, s2q, s3q]
    refine call_in (i := 9) rfl (by kernel_rfl) (fun K hK => ?_)
    clear hHeld
    go_simp
    have hb7 := set5_below (n₀ := W2.heap.size) HB5.out (w.heap.size + 2) 0 (.int .i64 ku) (.int .i64 nu) (.string mu) (.slice ua ul uc) (.slice va vl vc) (by omega)
    refine hK.out _ _ (hk.out _ hb7) (fun _ => ?_)
    clear hK K
    refine wpAnyH_done (by kernel_rfl) ?_ _
    refine ⟨rfl, w.heap.size + 2, ua, ul, uc, va, vl, vc, ⟨by omega, by have := HS5.out; show _ < (((((w5.setCell _ _).setCell _ _).setCell _ _).setCell _ _).setCell _ _).heap.size; rw [setCell_size, setCell_size, setCell_size, setCell_size, setCell_size]; omega, hb7, set5_row hr5, ?_⟩, rfl⟩
    exact tmP_move (w := w5) (fun b _ (hp : W3.heap.size ≤ b) => ⟨⟨by omega, by omega⟩, set5_far' w5 (w.heap.size + 2) 0 b _ _ _ _ _ (by omega)⟩) (by show w5.heap.size ≤ (((((w5.setCell _ _).setCell _ _).setCell _ _).setCell _ _).setCell _ _).heap.size; rw [setCell_size, setCell_size, setCell_size, setCell_size, setCell_size]; exact Nat.le_refl _) _ _ _ HT9.out
  case rest =>
   rintro e a7 W3 ⟨rfl, Bo, ua, ul, uc, va, vl, vc, ⟨hBo, hBl3, hb3, hro, htu⟩, rfl⟩
   have HB3 := Lib.hid hb3
   have HRO := Lib.hid hro
   have HTU := Lib.hid htu
   have HM3 : Hid (MkB W3 Bm (.func (.func fid) #[] lb) r) := (hb3.block Bm (by omega)).trans HMW.out
   have HR13 := Lib.hid ((hb3.block (w.heap.size + 1) (by omega)).trans HR1.out)
   obtain ⟨q, hq⟩ : ∃ q, min (tnodes U) 2001 = q := ⟨_, rfl⟩
   have hq2 : q ≤ 2001 := by omega
   have HNC := Lib.hid (fun w' (h : Below W3.heap.size W3 w') => tnodes_is U (tv U (.slice ua ul uc) (.slice va vl vc)) w' ⟨_, _, rfl, tmP_weak (fun _ _ => trivial) (tmP_below h HTU.out)⟩ hUN q hq)
   dsimp only [tv] at HNC
   rw [HU.out.1, HU.out.2.1, HU.out.2.2] at HNC
   have HQ := Lib.hid hq
   have hww : IntKind.i64.wrap (r - (q : Int)) = r - (q : Int) := IntWalk.i64_in _ ⟨by omega, by omega⟩
   clear hb3 hro htu hq HCALL hk HC
   go_wp2_with fail
   have hk3 : Hid (∀ W', Below W3.heap.size W3 W' → W'.cell? ⟨Bm, 1, none⟩ = some (.int .i64 r) ∧ W'.cell? ⟨Bo, 0, none⟩ = some (.int .i64 ku) ∧ W'.cell? ⟨Bo, 1, none⟩ = some (.int .i64 nu) ∧ W'.cell? ⟨Bo, 2, none⟩ = some (.string mu) ∧ W'.cell? ⟨Bo, 3, none⟩ = some (.slice ua ul uc) ∧ W'.cell? ⟨Bo, 4, none⟩ = some (.slice va vl vc)) := fun W' h => by
    obtain ⟨a0, a1, a2, a3, a4⟩ := five_cells ((h.block Bo hBl3).trans HRO.out)
    exact ⟨(MkB.cells ((h.block Bm (by omega)).trans HM3.out)).2.1, a0, a1, a2, a3, a4⟩
   refine region_E (S := fun W' => W'.cell? ⟨Bm, 1, none⟩ = some (.int .i64 r) ∧ W'.cell? ⟨Bo, 0, none⟩ = some (.int .i64 ku) ∧ W'.cell? ⟨Bo, 1, none⟩ = some (.int .i64 nu) ∧ W'.cell? ⟨Bo, 2, none⟩ = some (.string mu) ∧ W'.cell? ⟨Bo, 3, none⟩ = some (.slice ua ul uc) ∧ W'.cell? ⟨Bo, 4, none⟩ = some (.slice va vl vc)) 9 (by kernel_rfl) ?_
   refine (fun (hHeld : (fun W' : World => W'.cell? ⟨Bm, 1, none⟩ = some (.int .i64 r) ∧ W'.cell? ⟨Bo, 0, none⟩ = some (.int .i64 ku) ∧ W'.cell? ⟨Bo, 1, none⟩ = some (.int .i64 nu) ∧ W'.cell? ⟨Bo, 2, none⟩ = some (.string mu) ∧ W'.cell? ⟨Bo, 3, none⟩ = some (.slice ua ul uc) ∧ W'.cell? ⟨Bo, 4, none⟩ = some (.slice va vl vc)) _) => ?_) (hk3.out _ ((Below.refl _ _).drew))
   refine take_E (i := 0) (v := ?_) 8 [7, 0] rfl (by kernel_rfl) (by kernel_rfl) (by kernel_rfl) (by kernel_rfl) rfl (by decide) (by kernel_rfl) rfl (fun _ _ _ h => h) (by rfl) ?_ hHeld ?_
   rotate_left
   ·intro w hSw
    (try dsimp only at hSw)
    go_simp
    try with_reducible rfl
   try simp only [Act.put, s1q, s2q, s3q]
   refine take_E (i := 1) (v := ?_) 6 [3, 2, 1] rfl (by kernel_rfl) (by kernel_rfl) (by kernel_rfl) (by kernel_rfl) rfl (by decide) (by kernel_rfl) rfl (fun _ _ _ h => h) (by rfl) ?_ hHeld ?_
   rotate_left
   ·intro w hSw
    (try dsimp only at hSw)
    go_simp
    try with_reducible rfl
   try simp only [Act.put, s1q, s2q, s3q]
   refine take_E (i := 2) (v := ?_) 6 [3, 2] rfl (by kernel_rfl) (by kernel_rfl) (by kernel_rfl) (by kernel_rfl) rfl (by decide) (by kernel_rfl) rfl (fun _ _ _ h => h) (by rfl) ?_ hHeld ?_
   rotate_left
   ·intro w hSw
    (try dsimp only at hSw)
    go_simp
    try with_reducible rfl
   try simp only [Act.put, s1q, s2q, s3q]
   refine take_E (i := 3) (v := ?_) 6 [3] rfl (by kernel_rfl) (by kernel_rfl) (by kernel_rfl) (by kernel_rfl) rfl (by decide) (by kernel_rfl) rfl (fun _ _ _ h => h) (by rfl) ?_ hHeld ?_
   rotate_left
   ·intro w hSw
    (try dsimp only at hSw)
    go_simp
    try with_reducible rfl
   try simp only [Act.put, s1q, s2q, s3q]
   refine take_E (i := 4) (v := ?_) 6 [5, 4] rfl (by kernel_rfl) (by kernel_rfl) (by kernel_rfl) (by kernel_rfl) rfl (by decide) (by kernel_rfl) rfl (fun _ _ _ h => h) (by rfl) ?_ hHeld ?_
   rotate_left
   ·intro w hSw
    (try dsimp only at hSw)
    go_simp
    try with_reducible rfl
   try simp only [Act.put, s1q, s2q, s3q]
   refine only_E (i := 5) rfl (by kernel_rfl) (fun K hK => ?_)
   clear hHeld
   go_simp
   go_at_call 89
   refine (HNC.out _ ((Below.refl _ _).drew)).mono ?_
   rintro e w6 ⟨rfl, hb6⟩
   have HB6 := Lib.hid ((Below.refl W3.heap.size W3).drew.trans hb6)
   have HM6 : Hid (MkB w6 Bm (.func (.func fid) #[] lb) r) := (HB6.out.block Bm (by omega)).trans HM3.out
   obtain ⟨mm0, mm1, mmf⟩ := HM6.out.cells
   clear hb6
   try (go_wp2_with fail)
   refine (fun (hHeld : (fun W' : World => W'.cell? ⟨Bm, 1, none⟩ = some (.int .i64 r) ∧ W'.cell? ⟨Bo, 0, none⟩ = some (.int .i64 ku) ∧ W'.cell? ⟨Bo, 1, none⟩ = some (.int .i64 nu) ∧ W'.cell? ⟨Bo, 2, none⟩ = some (.string mu) ∧ W'.cell? ⟨Bo, 3, none⟩ = some (.slice ua ul uc) ∧ W'.cell? ⟨Bo, 4, none⟩ = some (.slice va vl vc)) _) => hK.out _ _ (fun _ => hHeld) ?_) (hk3.out _ HB6.out)
   clear hK K
   try simp only [Act.put, s1q, s2q, s3q]
   refine take_E (i := 6) (v := ?_) 6 [] rfl (by kernel_rfl) (by kernel_rfl) (by kernel_rfl) (by kernel_rfl) rfl (by decide) (by kernel_rfl) rfl (fun _ _ _ h => h) (by rfl) ?_ hHeld ?_
   rotate_left
   ·intro w hSw
    (try dsimp only at hSw)
    go_simp
    try with_reducible rfl
   try simp only [Act.put, s1q, s2q, s3q]
   refine take_E (i := 7) (v := ?_) 8 [7] rfl (by kernel_rfl) (by kernel_rfl) (by kernel_rfl) (by kernel_rfl) rfl (by decide) (by kernel_rfl) rfl (fun _ _ _ h => h) (by rfl) ?_ hHeld ?_
   rotate_left
   ·intro w hSw
    (try dsimp only at hSw)
    go_simp
    try with_reducible rfl
   try simp only [Act.put, s1q, s2q, s3q]
   refine take_E (i := 8) (v := ?_) 8 [] rfl (by kernel_rfl) (by kernel_rfl) (by kernel_rfl) (by kernel_rfl) rfl (by decide) (by kernel_rfl) rfl (fun _ _ _ h => h) (by rfl) ?_ hHeld ?_
   rotate_left
   ·intro w hSw
    (try dsimp only at hSw)
    go_simp
    try with_reducible rfl
   try simp only [Act.put, s1q, s2q, s3q]
   refine only_E (i := 9) rfl (by kernel_rfl) (fun K hK => ?_)
   clear hHeld
   go_simp
   have hset := HM6.out.set (r - (q : Int))
   have hg7 : W3.grownBy (w6.setCell ⟨Bm, 1, none⟩ (.int .i64 (r - (q : Int)))) (some Bm) := set1_grown (grown_of (some Bm) HB6.out)
   have HS7 := Lib.hid hset
   have HG7 := Lib.hid hg7
   refine hK.out _ _ (fun h => by cases h) ?_
   clear hK K mm0 mm1 mmf hset hg7
   try simp only [Act.put, s1q, s2q, s3q]
   refine done_E (by kernel_rfl) ?_ _
   generalize w6.setCell ⟨Bm, 1, none⟩ (.int .i64 (r - (q : Int))) = W7 at *
   obtain ⟨o0, o1, o2, o3, o4⟩ := five_cells ((HG7.out.block Bo hBl3 (by simp; omega)).trans HRO.out)
   have hrz := (HG7.out.block (w.heap.size + 1) (by have := HB3.out.size; omega) (by simp; omega)).trans HR13.out
   obtain ⟨e0, e1, e2, e3, e4⟩ := five_cells hrz
   have g0 := frozen0 (p := 0) hrz
   have g1 := frozen0 (p := 1) hrz
   have g2 := frozen0 (p := 2) hrz
   have g3 := frozen0 (p := 3) hrz
   have g4 := frozen0 (p := 4) hrz
   go_wp2_with fail
   refine bodyPost_ret (results_cell_row rfl _ _ (w.heap.size + 1) 25 _ (0, 0) _ rfl (set5_row hrz) Tryz.underlying25 rfl (by rw [hi0, Option.map_some, hz1]; rfl)) rfl ?_
   have h37 := grown_size HG7.out
   have hs23 := HB3.out.size
   refine ⟨U, .slice ua ul uc, .slice va vl vc, r - (q : Int), by dsimp only [tv]; rw [HU.out.1, HU.out.2.1, HU.out.2.2], ?_, ?_, ?_, by omega, by omega, fun h => ?_, fun h => ?_⟩
   ·exact tmP_move (w := W3) (fun b hlt (hp : w.heap.size + 2 ≤ b ∧ b ≠ Bo) => ⟨by omega, (set5_far' W7 (w.heap.size + 1) 0 b _ _ _ _ _ (by omega)).trans (HG7.out.block b hlt (by simp; omega))⟩) (by rw [set5_sz]; exact h37) _ _ _ HTU.out
   ·exact (set5_far' W7 (w.heap.size + 1) 0 Bm _ _ _ _ _ (by omega)).trans HS7.out
   ·exact grown5 w W3 W7 (w.heap.size + 1) Bm _ _ _ _ _ (HB.out.trans (HB3.out.mono HB.out.size)) HG7.out (by omega)
   ·have := HQ.out
    exact ⟨rfl, by omega⟩
   ·have := HQ.out
    omega
 ·have HLL : Hid (ts.length ≠ 0) := by
   have : ts.length ≠ 0 := by rw [HLEN.out]; exact hs0
   exact this
  have HSUB : Hid (subT F (.mk k n m ls ts) d = .mk k 0 ⟨#[]⟩ [] (subL F k ts.length ts 0 d)) := by
   have : subT F (.mk k n m ls ts) d = .mk k 0 ⟨#[]⟩ [] (subL F k ts.length ts 0 d) := by rw [subT, if_neg HLL.out]
   exact this
  rw [HSUB.out]
  have HRL := Lib.hid (subL_length F k ts.length ts 0 d)
  have HRG := Lib.hid (subL_get F k ts.length ts 0 d)
  generalize subL F k ts.length ts 0 d = rs at *
  have hsl0 : ((sl : Int) == 0) = false := by simp; omega
  have hsl1 : (sl == 0) = false := by simp; omega
  go_enter Tryz.func66, Tryz.ntmps66
  go_upto_region 5 with fail
  have z1 : (w.alloc (.cells #[.int .i64 k, .int .i64 n, .string m, .slice la ll lc, .slice sa sl sc] 25)).heap.size = w.heap.size + 1 := by simp
  have z2 : ((w.alloc (.cells #[.int .i64 k, .int .i64 n, .string m, .slice la ll lc, .slice sa sl sc] 25)).alloc (.cells #[.int .i64 0, .int .i64 0, .string ⟨#[]⟩, .slice none 0 0, .slice none 0 0] 25)).heap.size = w.heap.size + 1 + 1 := by simp
  have r0 : (w.alloc (.cells #[.int .i64 k, .int .i64 n, .string m, .slice la ll lc, .slice sa sl sc] 25)).heap[w.heap.size]? = some (Obj.cells #[.int .i64 k, .int .i64 n, .string m, .slice la ll lc, .slice sa sl sc] 25 (0, 0)) := by
   have := heap_alloc_new w (.cells #[.int .i64 k, .int .i64 n, .string m, .slice la ll lc, .slice sa sl sc] 25)
   exact this
  have r1 : ((w.alloc (.cells #[.int .i64 k, .int .i64 n, .string m, .slice la ll lc, .slice sa sl sc] 25)).alloc (.cells #[.int .i64 0, .int .i64 0, .string ⟨#[]⟩, .slice none 0 0, .slice none 0 0] 25)).heap[w.heap.size + 1]? = some (Obj.cells #[.int .i64 0, .int .i64 0, .string ⟨#[]⟩, .slice none 0 0, .slice none 0 0] 25 (0, 0)) := by
   have := heap_alloc_new (w.alloc (.cells #[.int .i64 k, .int .i64 n, .string m, .slice la ll lc, .slice sa sl sc] 25)) (.cells #[.int .i64 0, .int .i64 0, .string ⟨#[]⟩, .slice none 0 0, .slice none 0 0] 25)
   rwa [z1] at this
  have HB := Lib.hid ((below_lit w (.cells #[.int .i64 k, .int .i64 n, .string m, .slice la ll lc, .slice sa sl sc] 25)).trans ((below_lit (w.alloc (.cells #[.int .i64 k, .int .i64 n, .string m, .slice la ll lc, .slice sa sl sc] 25)) (.cells #[.int .i64 0, .int .i64 0, .string ⟨#[]⟩, .slice none 0 0, .slice none 0 0] 25)).mono (below_lit w (.cells #[.int .i64 k, .int .i64 n, .string m, .slice la ll lc, .slice sa sl sc] 25)).size))
  have HR0 := Lib.hid ((heap_alloc_old (w.alloc (.cells #[.int .i64 k, .int .i64 n, .string m, .slice la ll lc, .slice sa sl sc] 25)) (.cells #[.int .i64 0, .int .i64 0, .string ⟨#[]⟩, .slice none 0 0, .slice none 0 0] 25) (by rw [z1]; omega)).trans (r0))
  have HR1 := Lib.hid (r1)
  clear r0 r1
  generalize ((w.alloc (.cells #[.int .i64 k, .int .i64 n, .string m, .slice la ll lc, .slice sa sl sc] 25)).alloc (.cells #[.int .i64 0, .int .i64 0, .string ⟨#[]⟩, .slice none 0 0, .slice none 0 0] 25)) = W2 at *
  have HZ := Lib.hid z2
  clear z1 z2
  have hz := HZ.out
  have HBW := Lib.hid (HB0.out.trans (HB.out.mono HB0.out.size))
  have hw0 := HB0.out.size
  have HMW : Hid (MkB W2 Bm (.func (.func fid) #[] lb) r) := (HB.out.block Bm hBl).trans HMK.out
  obtain ⟨a0, a1, a2, a3, a4⟩ := five_cells HR0.out
  obtain ⟨mm0, mm1, mmf⟩ := HMW.out.cells
  have hwr1 : IntKind.i64.wrap (r - 1) = r - 1 := IntWalk.i64_in _ ⟨by omega, by omega⟩
  go_wp2_with fail
  have hset := HMW.out.set (r - 1)
  have hg3 := set1_grown (p := 1) (x := .int .i64 (r - 1)) (grown_of (some Bm) (Below.refl W2.heap.size W2))
  have HM3 := Lib.hid hset
  have HG3 := Lib.hid hg3
  have hz3 : (W2.setCell ⟨Bm, 1, none⟩ (.int .i64 (r - 1))).heap.size = w.heap.size + 2 := by rw [setCell_size]; omega
  generalize W2.setCell ⟨Bm, 1, none⟩ (.int .i64 (r - 1)) = W3 at *
  have HR03 := Lib.hid ((HG3.out.block w.heap.size (by omega) (by simp; omega)).trans HR0.out)
  have HR13 := Lib.hid ((HG3.out.block (w.heap.size + 1) (by omega) (by simp; omega)).trans HR1.out)
  clear a0 a1 a2 a3 a4 mm0 mm1 mmf hset hg3
  have hslN : sl ≤ 1000000 := by
   have h1 := tlen_nodes ts
   have h2 := HTN.out
   have h3 := HLEN.out
   omega
  have hmk := fun (W : World) => run_make (P := Tryz.prog) W 23 25 i0 _ Tryz.underlying23 hi0 hz0 .i64 .i64 (sl : Int) (sl : Int) (by omega) (Int.le_refl _) (by rw [hz2]; omega) (by omega)
  simp only [Int.toNat_natCast, hz1] at hmk
  have HMC := Lib.hid (size_madeCells (Value.agg #[.int .i64 0, .int .i64 0, .string ⟨#[]⟩, .slice none 0 0, .slice none 0 0]).cells (sl * 5))
  have HDN := Lib.hid (fun (S : Nat) (W : World) => doneTo_new S W sl)
  generalize madeCells (Value.agg #[.int .i64 0, .int .i64 0, .string ⟨#[]⟩, .slice none 0 0, .slice none 0 0]).cells (sl * 5) = MC at *
  have hk6 : Hid (∀ W', Below W3.heap.size W3 W' → W'.cell? ⟨w.heap.size, 0, none⟩ = some (.int .i64 k) ∧ W'.cell? ⟨w.heap.size, 1, none⟩ = some (.int .i64 n) ∧ W'.cell? ⟨w.heap.size, 2, none⟩ = some (.string m) ∧ W'.cell? ⟨w.heap.size, 3, none⟩ = some (.slice la ll lc) ∧ W'.cell? ⟨w.heap.size, 4, none⟩ = some (.slice sa sl sc)) := fun W' h => five_cells ((h.block w.heap.size (by omega)).trans HR03.out)
  have HZ3 := Lib.hid hz3
  clear hz3
  refine wp_mono (Q := fun e a' W' => e = .normal ∧ ∃ (Bo BA : Nat), (w.heap.size + 2 ≤ Bo ∧ w.heap.size + 2 ≤ BA ∧ Bo ≠ BA ∧ Bo < W'.heap.size ∧ BA < W'.heap.size ∧ Below W3.heap.size W3 W' ∧ W'.heap[Bo]? = some (.cells #[.int .i64 k, .int .i64 0, .string ⟨#[]⟩, .slice none 0 0, .slice (some ⟨BA, 0, none⟩) sl sl] 25 (0, 0)) ∧ W'.heap[BA]? = some (.cells MC 25 (0, 0))) ∧ a' = { tmps := #[.pointer (some ⟨Bm, 0, none⟩), .agg #[.int .i64 k, .int .i64 n, .string m, .slice la ll lc, .slice sa sl sc], .int .i64 d, undef, .pointer (some ⟨w.heap.size, 0, none⟩), undef, .pointer (some ⟨w.heap.size + 1, 0, none⟩), undef, .pointer (some ⟨Bo, 0, none⟩), undef, undef, .pointer (some ⟨w.heap.size, 4, none⟩), .slice sa sl sc, .int .i64 sl, .bool false, undef, undef, undef, undef, undef, undef, undef, undef, undef, undef, undef, undef, undef, undef, undef, undef, undef, undef, .pointer (some ⟨Bm, 0, none⟩), .pointer (some ⟨Bm, 0, none⟩), .pointer (some ⟨Bm, 1, none⟩), .int .i64 r, .int .i64 (r - 1), .pointer (some ⟨Bm, 0, none⟩), .pointer (some ⟨Bm, 1, none⟩), .pointer (some ⟨w.heap.size, 0, none⟩), .int .i64 k, .pointer (some ⟨w.heap.size, 4, none⟩), .slice sa sl sc, .int .i64 sl, .slice (some ⟨BA, 0, none⟩) sl sl, .agg #[.int .i64 k, .int .i64 0, .string ⟨#[]⟩, .slice none 0 0, .slice (some ⟨BA, 0, none⟩) sl sl], undef, undef, undef, undef, undef, undef, undef, undef, undef, undef, undef, undef, undef, undef, undef, undef, undef, undef, undef, undef, undef, undef, undef, undef, undef, undef, undef], defers := [] }) ?region ?rest
  case region =>
   refine wp_region_held_drew (S := fun W' => W'.cell? ⟨w.heap.size, 0, none⟩ = some (.int .i64 k) ∧ W'.cell? ⟨w.heap.size, 1, none⟩ = some (.int .i64 n) ∧ W'.cell? ⟨w.heap.size, 2, none⟩ = some (.string m) ∧ W'.cell? ⟨w.heap.size, 3, none⟩ = some (.slice la ll lc) ∧ W'.cell? ⟨w.heap.size, 4, none⟩ = some (.slice sa sl sc)) (by kernel_rfl) (hk6.out _ ((Below.refl _ _).drew)) (fun hHeld => ?_)
   refine take_in (i := 0) (v := ?_) rfl (by kernel_rfl) (by kernel_rfl) (by kernel_rfl) (fun _ _ _ h => by cases h.1) (by rfl) ?_ hHeld ?_
   rotate_left
   ·intro w hSw
    (try dsimp only at hSw)
    go_simp
    try with_reducible rfl
   try simp only [Act.put, s1q, s2q, s3q]
   refine take_in (i := 1) (v := ?_) rfl (by kernel_rfl) (by kernel_rfl) (by kernel_rfl) (fun _ _ _ h => by cases h.1) (by rfl) ?_ hHeld ?_
   rotate_left
   ·intro w hSw
    (try dsimp only at hSw)
    go_simp
    try with_reducible rfl
   try simp only [Act.put, s1q, s2q, s3q]
   refine take_in (i := 2) (v := ?_) rfl (by kernel_rfl) (by kernel_rfl) (by kernel_rfl) (fun _ _ _ h => by cases h.1) (by rfl) ?_ hHeld ?_
   rotate_left
   ·intro w hSw
    (try dsimp only at hSw)
    go_simp
    try with_reducible rfl
   try simp only [Act.put, s1q, s2q, s3q]
   refine take_in (i := 3) (v := ?_) rfl (by kernel_rfl) (by kernel_rfl) (by kernel_rfl) (fun _ _ _ h => by cases h.1) (by rfl) ?_ hHeld ?_
   rotate_left
   ·intro w hSw
    (try dsimp only at hSw)
    go_simp
    try with_reducible rfl
   try simp only [Act.put, s1q, s2q, s3q]
   refine take_in (i := 4) (v := ?_) rfl (by kernel_rfl) (by kernel_rfl) (by kernel_rfl) (fun _ _ _ h => by cases h.1) (by rfl) ?_ hHeld ?_
   rotate_left
   ·intro w hSw
    (try dsimp only at hSw)
    go_simp
    try with_reducible rfl
   try simp only [Act.put, s1q, s2q, s3q]
   refine two_in (i := 5) (j := 7) rfl rfl (by kernel_rfl) (fun K hK => ?_) (fun K hK => ?_)
   ·clear hHeld
    go_simp
    have hb5 := (below_lit W3 (.cells MC 25)).drew
    have hr5 : ((W3.alloc (.cells MC 25)).drew).heap[W3.heap.size]? = some (Obj.cells MC 25 (0, 0)) := heap_alloc_new W3 (.cells MC 25)
    have HS5 : Hid (((W3.alloc (.cells MC 25)).drew).heap.size = W3.heap.size + 1) := by
     have : ((W3.alloc (.cells MC 25)).drew).heap.size = W3.heap.size + 1 := by
      show (W3.alloc (.cells MC 25)).heap.size = _
      simp
     exact this
    try (go_wp2_with fail)
    refine hK.out _ _ (hk6.out _ hb5) (fun hHeld => ?_)
    clear hK K
    try simp only [Act.put, s1q, s2q, s3q]
    generalize (W3.alloc (.cells MC 25)).drew = W5 at *
    have HB5 := Lib.hid hb5
    have HR5 := Lib.hid hr5
    clear hb5 hr5
    refine take_in (i := 6) (v := ?_) rfl (by kernel_rfl) (by kernel_rfl) (by kernel_rfl) (fun _ _ _ h => by cases h.1) (by rfl) ?_ hHeld ?_
    rotate_left
    ·intro w hSw
     (try dsimp only at hSw)
     go_simp
     try with_reducible rfl
    try simp only [Act.put, s1q, s2q, s3q]
    refine call_in (i := 7) rfl (by kernel_rfl) (fun K hK => ?_)
    clear hHeld
    go_simp
    have hb6 := below_lit W5 (.cells #[.int .i64 0, .int .i64 0, .string ⟨#[]⟩, .slice none 0 0, .slice none 0 0] 25)
    try (go_wp2_with fail)
    refine hK.out _ _ (hk6.out _ (HB5.out.trans (hb6.mono HB5.out.size))) (fun hHeld => ?_)
    clear hK K
    try simp only [Act.put, s1q, s2q, s3q]
    refine call_in (i := 8) rfl (by kernel_rfl) (fun K hK => ?_)
    clear hHeld
    go_simp
    have hb7 := below_lit W5 (.cells #[.int .i64 k, .int .i64 0, .string ⟨#[]⟩, .slice none 0 0, .slice (some ⟨W3.heap.size, 0, none⟩) sl sl] 25)
    refine hK.out _ _ (hk6.out _ (HB5.out.trans (hb7.mono HB5.out.size))) (fun _ => ?_)
    clear hK K
    refine wpAnyH_done (by kernel_rfl) ?_ _
    have z3 := HZ3.out
    have hs5 := HS5.out
    refine ⟨rfl, W5.heap.size, W3.heap.size, ⟨by omega, by omega, by omega, by simp, by simp; omega, HB5.out.trans (hb7.mono HB5.out.size), heap_alloc_new W5 _, (heap_alloc_old W5 _ (by omega)).trans HR5.out⟩, rfl⟩
   ·clear hHeld
    go_simp
    have hb5 := (below_lit W3 (.cells #[.int .i64 0, .int .i64 0, .string ⟨#[]⟩, .slice none 0 0, .slice none 0 0] 25)).drew
    have hr5 : ((W3.alloc (.cells #[.int .i64 0, .int .i64 0, .string ⟨#[]⟩, .slice none 0 0, .slice none 0 0] 25)).drew).heap[W3.heap.size]? = some (Obj.cells #[.int .i64 0, .int .i64 0, .string ⟨#[]⟩, .slice none 0 0, .slice none 0 0] 25 (0, 0)) := heap_alloc_new W3 (.cells #[.int .i64 0, .int .i64 0, .string ⟨#[]⟩, .slice none 0 0, .slice none 0 0] 25)
    have HS5 : Hid (((W3.alloc (.cells #[.int .i64 0, .int .i64 0, .string ⟨#[]⟩, .slice none 0 0, .slice none 0 0] 25)).drew).heap.size = W3.heap.size + 1) := by
     have : ((W3.alloc (.cells #[.int .i64 0, .int .i64 0, .string ⟨#[]⟩, .slice none 0 0, .slice none 0 0] 25)).drew).heap.size = W3.heap.size + 1 := by
      show (W3.alloc (.cells #[.int .i64 0, .int .i64 0, .string ⟨#[]⟩, .slice none 0 0, .slice none 0 0] 25)).heap.size = _
      simp
     exact this
    try (go_wp2_with fail)
    refine hK.out _ _ (hk6.out _ hb5) (fun hHeld => ?_)
    clear hK K
    try simp only [Act.put, s1q, s2q, s3q]
    generalize (W3.alloc (.cells #[.int .i64 0, .int .i64 0, .string ⟨#[]⟩, .slice none 0 0, .slice none 0 0] 25)).drew = W5 at *
    have HB5 := Lib.hid hb5
    have HR5 := Lib.hid hr5
    clear hb5 hr5
    refine call_in (i := 5) rfl (by kernel_rfl) (fun K hK => ?_)
    clear hHeld
    go_simp
    have hb6 := below_lit W5 (.cells MC 25)
    have hr6 := heap_alloc_new W5 (.cells MC 25)
    have HS6 : Hid ((W5.alloc (.cells MC 25)).heap.size = W5.heap.size + 1) := by
     have : (W5.alloc (.cells MC 25)).heap.size = W5.heap.size + 1 := by simp
     exact this
    have hro6 := (heap_alloc_old W5 (.cells MC 25) (r := W3.heap.size) (by have := HS5.out; omega)).trans HR5.out
    try (go_wp2_with fail)
    refine hK.out _ _ (hk6.out _ (HB5.out.trans (hb6.mono HB5.out.size))) (fun hHeld => ?_)
    clear hK K
    try simp only [Act.put, s1q, s2q, s3q]
    generalize W5.alloc (.cells MC 25) = W6 at *
    have HB6 := Lib.hid (HB5.out.trans (hb6.mono HB5.out.size))
    have HR6 := Lib.hid hr6
    clear hb6 hr6
    refine take_in (i := 6) (v := ?_) rfl (by kernel_rfl) (by kernel_rfl) (by kernel_rfl) (fun _ _ _ h => by cases h.1) (by rfl) ?_ hHeld ?_
    rotate_left
    ·intro w hSw
     (try dsimp only at hSw)
     go_simp
     try with_reducible rfl
    try simp only [Act.put, s1q, s2q, s3q]
    obtain ⟨n0, n1, n2, n3, n4⟩ := five_cells hro6
    have m0 := frozen0 (p := 0) hro6
    have m1 := frozen0 (p := 1) hro6
    have m2 := frozen0 (p := 2) hro6
    have m3 := frozen0 (p := 3) hro6
    have m4 := frozen0 (p := 4) hro6
    refine call_in (i := 8) rfl (by kernel_rfl) (fun K hK => ?_)
    clear hHeld
    go_simp
    have hb7 := set5_below (n₀ := W3.heap.size) HB6.out W3.heap.size 0 (.int .i64 k) (.int .i64 0) (.string ⟨#[]⟩) (.slice none 0 0) (.slice (some ⟨W5.heap.size, 0, none⟩) sl sl) (Nat.le_refl _)
    refine hK.out _ _ (hk6.out _ hb7) (fun _ => ?_)
    clear hK K
    refine wpAnyH_done (by kernel_rfl) ?_ _
    have z3 := HZ3.out
    have hs5 := HS5.out
    have hs6 := HS6.out
    refine ⟨rfl, W3.heap.size, W5.heap.size, ⟨by omega, by omega, by omega, ?_, ?_, hb7, set5_row hro6, (set5_far' W6 W3.heap.size 0 W5.heap.size _ _ _ _ _ (by omega)).trans HR6.out⟩, rfl⟩
    ·show _ < (((((W6.setCell _ _).setCell _ _).setCell _ _).setCell _ _).setCell _ _).heap.size
     rw [setCell_size, setCell_size, setCell_size, setCell_size, setCell_size]
     omega
    ·show _ < (((((W6.setCell _ _).setCell _ _).setCell _ _).setCell _ _).setCell _ _).heap.size
     rw [setCell_size, setCell_size, setCell_size, setCell_size, setCell_size]
     omega
  case rest =>
   have hz3 := HZ3.out
   rintro e a7 W4 ⟨rfl, Bo, BA, ⟨hBo, hBA, hne, hBo2, hBA2, hb4, hro, hra⟩, rfl⟩
   have HB4 := Lib.hid hb4
   have HRO := Lib.hid hro
   have HRA := Lib.hid hra
   have h34 := hb4.size
   have HM4 : Hid (MkB W4 Bm (.func (.func fid) #[] lb) (r - 1)) := (hb4.block Bm (by omega)).trans HM3.out
   have HR04 := Lib.hid ((hb4.block w.heap.size (by omega)).trans HR03.out)
   have HR14 := Lib.hid ((hb4.block (w.heap.size + 1) (by omega)).trans HR13.out)
   have HG4 := Lib.hid (grown_below (HG3.out) hb4)
   obtain ⟨a0, a1, a2, a3, a4⟩ := five_cells HR04.out
   clear hb4 hro hra hmk hk6 HR03 HR13
   go_wp2_with fail
   go_loopw [9, 10, 50] (fun _ _ i wr => ∃ (j : Nat) (arr : Array Value) (us : List Tm) (q : Int), j ≤ sl ∧ i = .int .i64 j ∧ us.length = sl ∧ arr.size = sl * 5 ∧ -2001 ≤ q ∧ q ≤ r - 1 ∧ Hid (0 ≤ q → us.take j = rs.take j ∧ q = r - 1 - tnodesL (rs.take j)) ∧ Hid (q < 0 → r < 1 + (tnodesL rs : Int)) ∧ Hid (wr.heap[BA]? = some (Obj.cells arr 25 (0, 0))) ∧ Hid (DoneTo (BA + 1) wr arr us sl) ∧ Hid (MkB wr Bm (.func (.func fid) #[] lb) q) ∧ Hid (KpM W4 wr Bm BA)) (fun _ _ i _ => sl - (intOf i).toNat)
   case atStart => exact ⟨0, MC, List.replicate sl tz, r - 1, Nat.zero_le _, rfl, by simp, HMC.out, by omega, Int.le_refl _, (by have : 0 ≤ r - 1 → (List.replicate sl tz).take 0 = rs.take 0 ∧ r - 1 = r - 1 - tnodesL (rs.take 0) := (fun _ => ⟨by simp, by simp [tnodesL]⟩); exact this), (by have : r - 1 < 0 → r < 1 + (tnodesL rs : Int) := (fun _ => by have h1 := tlen_nodes rs; have h2 := HRL.out; have h3 := HLL.out; omega); exact this), HRA.out, (by have := HDN.out (BA + 1) W4; rw [List.length_replicate] at this; exact this), HM4.out, KpM.refl _ _ _⟩
   case round =>
    obtain ⟨j, arr, us, q, hj, rfl, huz, hasz, hq0, hq1, hqa, hqb, harr, hdone, hmr, hgr⟩ := hrel
    have hsr := hgr.out.size
    have hro := (hgr.out.block Bo (by omega) (by omega) hne).trans HRO.out
    have hrz := (hgr.out.block (w.heap.size + 1) (by omega) (by omega) (by omega)).trans HR14.out
    have hr0 := (hgr.out.block w.heap.size (by omega) (by omega) (by omega)).trans HR04.out
    have HGR : Hid (w.grownBy wr (some Bm)) := grown_kpm (HB.out) HG4.out hgr.out (by omega) (by omega)
    have HQROW : Hid (TsP wr (fun b => w.heap.size + 2 ≤ b) (some ⟨BA, 0, none⟩) 0 us) := doneTo_tsP (B := w.heap.size + 2) (by have := hdone.out; rw [← huz] at this; exact this) harr.out (by omega) (by omega)
    by_cases hlt : j < sl
    ·have hx1 : j < ts.length := by rw [HLEN.out]; exact hlt
     have hu1 : j < rs.length := by rw [HRL.out]; exact hx1
     have hln : decide ((j : Int) < (sl : Int)) = true := by simp; omega
     obtain ⟨bk, o, l1, s1, eA, hbs, _, hc0, hc1, hc2, hc3, hc4, htm⟩ := tsP_get HTS.out j hx1
     subst eA
     obtain ⟨⟨xa, xl, xc, rfl⟩, ya, yl, yc, rfl⟩ := tmP_slices htm
     have HBr := Lib.hid (HB0.out.grown HGR.out HB0.out.size (fun k e => by cases e; exact hBm))
     have d0 := (HBr.out.cell (p := ⟨bk, _, none⟩) hbs).trans hc0
     have d1 := (HBr.out.cell (p := ⟨bk, _, none⟩) hbs).trans hc1
     have d2 := (HBr.out.cell (p := ⟨bk, _, none⟩) hbs).trans hc2
     have d3 := (HBr.out.cell (p := ⟨bk, _, none⟩) hbs).trans hc3
     have d4 := (HBr.out.cell (p := ⟨bk, _, none⟩) hbs).trans hc4
     have q1 : (0 : Int) ≤ (j : Int) := by omega
     have q2 : (j : Int) < (sl : Int) := by omega
     obtain ⟨mm0, mm1, mmf⟩ := hmr.out.cells
     by_cases hqn : q < 0
     ·have hqd : decide (q < 0) = true := by simp; omega
      have HTM := Lib.hid htm
      clear htm hc0 hc1 hc2 hc3 hc4
      generalize tkOf ts[j] = ka at *
      generalize tnOf ts[j] = na at *
      generalize tmOf ts[j] = ma at *
      have hbx := below_lit wr (.cells #[.int .i64 ka, .int .i64 na, .string ma, .slice xa xl xc, .slice ya yl yc] 25)
      have HBX := Lib.hid hbx
      have hmx := (hbx.block Bm (by omega)).trans hmr.out
      obtain ⟨mx0, mx1, mxf⟩ := MkB.cells hmx
      have hro' := (hbx.block Bo (by omega)).trans hro
      have hrz' := (hbx.block (w.heap.size + 1) (by omega)).trans hrz
      have HMX := Lib.hid hmx
      go_upto_region 13 with fail
      generalize wr.alloc (.cells #[.int .i64 ka, .int .i64 na, .string ma, .slice xa xl xc, .slice ya yl yc] 25) = wx at *
      have hsx := HBX.out.size
      clear mm0 mm1 mmf d0 d1 d2 d3 d4 hro hrz
      have hro := hro'
      have hrz := hrz'
      obtain ⟨e0, e1, e2, e3, e4⟩ := five_cells hrz
      have g0 := frozen0 (p := 0) hrz
      have g1 := frozen0 (p := 1) hrz
      have g2 := frozen0 (p := 2) hrz
      have g3 := frozen0 (p := 3) hrz
      have g4 := frozen0 (p := 4) hrz
      obtain ⟨o0, o1, o2, o3, o4⟩ := five_cells hro
      go_wp2_with fail
      refine bodyPost_ret (results_cell_row rfl _ _ (w.heap.size + 1) 25 _ (0, 0) _ rfl (set5_row hrz) Tryz.underlying25 rfl (by rw [hi0, Option.map_some, hz1]; rfl)) rfl ?_
      refine ⟨.mk k 0 ⟨#[]⟩ [] us, .slice none 0 0, .slice (some ⟨BA, 0, none⟩) sl sl, q, rfl, ?_, ?_, ?_, by omega, by omega, ?_, ?_⟩
      ·rw [TmP]
       refine ⟨lvP_nil _ _, _, _, _, rfl, huz, Nat.le_refl _, by omega, (fun e => by cases e), ?_⟩
       exact tsP_move (w := wr) (fun b hlt (hp : w.heap.size + 2 ≤ b) => ⟨by omega, (set5_far' wx (w.heap.size + 1) 0 b _ _ _ _ _ (by omega)).trans (HBX.out.block b hlt)⟩) (by rw [set5_sz]; exact hsx) _ _ _ HQROW.out
      ·exact (set5_far' wx (w.heap.size + 1) 0 Bm _ _ _ _ _ (by omega)).trans HMX.out
      ·exact grown6 (grown_below HGR.out HBX.out) (by omega)
      ·intro h
       exact absurd h (by have := hqb.out hqn; rw [tnodes, nodesL]; omega)
      ·intro _
       exact hqn
     ·have hqd : decide (q < 0) = false := by simp; omega
      obtain ⟨R, hR⟩ : ∃ R, bndP k ts.length j = R := ⟨_, rfl⟩
      have hR1' : R ≤ 1 := by rw [← hR]; exact bndP_le _ _ _
      have HRR : Hid (bndP k sl j = R) := by rw [← HLEN.out]; exact hR
      obtain ⟨dn, hdn⟩ : ∃ q, q = d + R := ⟨_, rfl⟩
      have hw1 : IntKind.i64.wrap ((d : Int) + (R : Int)) = (dn : Int) := (IntWalk.i64_in _ ⟨by omega, by omega⟩).trans (by omega)
      have hou := HRG.out j hx1 hu1
      rw [Nat.zero_add, hR, ← hdn] at hou
      have hal := allL_get C k ts.length ts 0 d HALL.out.2 j hx1
      rw [Nat.zero_add, hR, ← hdn] at hal
      have hcall := IH.out ts[j] dn q (.slice xa xl xc) (.slice ya yl yc)
      rw [← hou] at hcall
      have HCALL := Lib.hid (fun (w' : World) (hw : Below w0.heap.size w0 w') (hm' : MkB w' Bm (.func (.func fid) #[] lb) q) => hcall w' (Nat.le_trans (tnodes_mem (List.getElem_mem hx1)) HTN.out) (by omega) hal htm hw hm' (by omega) (by omega))
      dsimp only [tv] at HCALL
      obtain ⟨T, hT⟩ : ∃ T, rs[j] = T := ⟨_, rfl⟩
      rw [hT] at HCALL
      have HTT := Lib.hid hT
      clear hcall htm hc0 hc1 hc2 hc3 hc4 hR hou hal hdn hT
      generalize tkOf ts[j] = ka at *
      generalize tnOf ts[j] = na at *
      generalize tmOf ts[j] = ma at *
      have hbx := below_lit wr (.cells #[.int .i64 ka, .int .i64 na, .string ma, .slice xa xl xc, .slice ya yl yc] 25)
      have hrx := heap_alloc_new wr (.cells #[.int .i64 ka, .int .i64 na, .string ma, .slice xa xl xc, .slice ya yl yc] 25)
      have hsx : (wr.alloc (.cells #[.int .i64 ka, .int .i64 na, .string ma, .slice xa xl xc, .slice ya yl yc] 25)).heap.size = wr.heap.size + 1 := by simp
      have HBX := Lib.hid hbx
      have hmx := (hbx.block Bm (by omega)).trans hmr.out
      obtain ⟨mx0, mx1, mxf⟩ := MkB.cells hmx
      have hk : Hid (∀ W', (wr.alloc (.cells #[.int .i64 ka, .int .i64 na, .string ma, .slice xa xl xc, .slice ya yl yc] 25)).grownBy W' (some Bm) → W'.cell? ⟨Bo, 4, none⟩ = some (.slice (some ⟨BA, 0, none⟩) sl sl) ∧ W'.cell? ⟨wr.heap.size, 0, none⟩ = some (.int .i64 ka) ∧ W'.cell? ⟨wr.heap.size, 1, none⟩ = some (.int .i64 na) ∧ W'.cell? ⟨wr.heap.size, 2, none⟩ = some (.string ma) ∧ W'.cell? ⟨wr.heap.size, 3, none⟩ = some (.slice xa xl xc) ∧ W'.cell? ⟨wr.heap.size, 4, none⟩ = some (.slice ya yl yc) ∧ W'.cell? ⟨w.heap.size, 0, none⟩ = some (.int .i64 k) ∧ W'.cell? ⟨w.heap.size, 1, none⟩ = some (.int .i64 n) ∧ W'.cell? ⟨w.heap.size, 2, none⟩ = some (.string m) ∧ W'.cell? ⟨w.heap.size, 3, none⟩ = some (.slice la ll lc) ∧ W'.cell? ⟨w.heap.size, 4, none⟩ = some (.slice (some ⟨bk, o, none⟩) sl sc)) := fun W' h => by
       obtain ⟨b0, b1, b2, b3, b4⟩ := five_cells ((h.block Bo (by omega) (by simp; omega)).trans ((HBX.out.block Bo (by omega)).trans hro))
       obtain ⟨e0, e1, e2, e3, e4⟩ := five_cells ((h.block wr.heap.size (by omega) (by simp; omega)).trans hrx)
       obtain ⟨a0, a1, a2, a3, a4⟩ := five_cells ((h.block w.heap.size (by omega) (by simp; omega)).trans ((HBX.out.block w.heap.size (by omega)).trans hr0))
       exact ⟨b4, e0, e1, e2, e3, e4, a0, a1, a2, a3, a4⟩
      have HA7 := Lib.hid ((HBX.out.block BA (by omega)).trans harr.out)
      have HM7 : Hid (MkB (wr.alloc (.cells #[.int .i64 ka, .int .i64 na, .string ma, .slice xa xl xc, .slice ya yl yc] 25)) Bm (.func (.func fid) #[] lb) q) := hmx
      have HW7 := Lib.hid (HBr.out.trans (hbx.mono HBr.out.size))
      go_upto_region 11 with fail
      generalize wr.alloc (.cells #[.int .i64 ka, .int .i64 na, .string ma, .slice xa xl xc, .slice ya yl yc] 25) = W7 at *
      clear mm0 mm1 mmf mx0 mx1 mxf d0 d1 d2 d3 d4 hrx hmx hro hrz hr0 hbx
      refine region_E (S := fun W' => W'.cell? ⟨Bo, 4, none⟩ = some (.slice (some ⟨BA, 0, none⟩) sl sl) ∧ W'.cell? ⟨wr.heap.size, 0, none⟩ = some (.int .i64 ka) ∧ W'.cell? ⟨wr.heap.size, 1, none⟩ = some (.int .i64 na) ∧ W'.cell? ⟨wr.heap.size, 2, none⟩ = some (.string ma) ∧ W'.cell? ⟨wr.heap.size, 3, none⟩ = some (.slice xa xl xc) ∧ W'.cell? ⟨wr.heap.size, 4, none⟩ = some (.slice ya yl yc) ∧ W'.cell? ⟨w.heap.size, 0, none⟩ = some (.int .i64 k) ∧ W'.cell? ⟨w.heap.size, 1, none⟩ = some (.int .i64 n) ∧ W'.cell? ⟨w.heap.size, 2, none⟩ = some (.string m) ∧ W'.cell? ⟨w.heap.size, 3, none⟩ = some (.slice la ll lc) ∧ W'.cell? ⟨w.heap.size, 4, none⟩ = some (.slice (some ⟨bk, o, none⟩) sl sc)) 12 (by kernel_rfl) ?_
      refine (fun (hHeld : (fun W' : World => W'.cell? ⟨Bo, 4, none⟩ = some (.slice (some ⟨BA, 0, none⟩) sl sl) ∧ W'.cell? ⟨wr.heap.size, 0, none⟩ = some (.int .i64 ka) ∧ W'.cell? ⟨wr.heap.size, 1, none⟩ = some (.int .i64 na) ∧ W'.cell? ⟨wr.heap.size, 2, none⟩ = some (.string ma) ∧ W'.cell? ⟨wr.heap.size, 3, none⟩ = some (.slice xa xl xc) ∧ W'.cell? ⟨wr.heap.size, 4, none⟩ = some (.slice ya yl yc) ∧ W'.cell? ⟨w.heap.size, 0, none⟩ = some (.int .i64 k) ∧ W'.cell? ⟨w.heap.size, 1, none⟩ = some (.int .i64 n) ∧ W'.cell? ⟨w.heap.size, 2, none⟩ = some (.string m) ∧ W'.cell? ⟨w.heap.size, 3, none⟩ = some (.slice la ll lc) ∧ W'.cell? ⟨w.heap.size, 4, none⟩ = some (.slice (some ⟨bk, o, none⟩) sl sc)) _) => ?_) (hk.out _ (grown_of _ ((Below.refl _ _).drew)))
      refine take_E (i := 0) (v := ?_) 11 [1, 0] rfl (by kernel_rfl) (by kernel_rfl) (by kernel_rfl) (by kernel_rfl) rfl (by decide) (by kernel_rfl) rfl (fun _ _ _ h => h) (by rfl) ?_ hHeld ?_
      rotate_left
      ·intro w hSw
       (try dsimp only at hSw)
       go_simp
       try with_reducible rfl
      try simp only [Act.put, s1q, s2q, s3q]
      refine take_E (i := 1) (v := ?_) 11 [1] rfl (by kernel_rfl) (by kernel_rfl) (by kernel_rfl) (by kernel_rfl) rfl (by decide) (by kernel_rfl) rfl (fun _ _ _ h => h) (by rfl) ?_ hHeld ?_
      rotate_left
      ·intro w hSw
       (try dsimp only at hSw)
       go_simp
       try with_reducible rfl
      try simp only [Act.put, s1q, s2q, s3q]
      refine take_E (i := 2) (v := ?_) 11 [2] rfl (by kernel_rfl) (by kernel_rfl) (by kernel_rfl) (by kernel_rfl) rfl (by decide) (by kernel_rfl) rfl (fun _ _ _ h => h) (by rfl) ?_ hHeld ?_
      rotate_left
      ·intro w hSw
       (try dsimp only at hSw)
       go_simp
       try with_reducible rfl
      try simp only [Act.put, s1q, s2q, s3q]
      refine take_E (i := 3) (v := ?_) 10 [3] rfl (by kernel_rfl) (by kernel_rfl) (by kernel_rfl) (by kernel_rfl) rfl (by decide) (by kernel_rfl) rfl (fun _ _ _ h => h) (by rfl) ?_ hHeld ?_
      rotate_left
      ·intro w hSw
       (try dsimp only at hSw)
       go_simp
       try with_reducible rfl
      try simp only [Act.put, s1q, s2q, s3q]
      refine take_E (i := 4) (v := ?_) 10 [4] rfl (by kernel_rfl) (by kernel_rfl) (by kernel_rfl) (by kernel_rfl) rfl (by decide) (by kernel_rfl) rfl (fun _ _ _ h => h) (by rfl) ?_ hHeld ?_
      rotate_left
      ·intro w hSw
       (try dsimp only at hSw)
       go_simp
       try with_reducible rfl
      try simp only [Act.put, s1q, s2q, s3q]
      refine take_E (i := 5) (v := ?_) 10 [9, 5] rfl (by kernel_rfl) (by kernel_rfl) (by kernel_rfl) (by kernel_rfl) rfl (by decide) (by kernel_rfl) rfl (fun _ _ _ h => h) (by rfl) ?_ hHeld ?_
      rotate_left
      ·intro w hSw
       (try dsimp only at hSw)
       go_simp
       try with_reducible rfl
      try simp only [Act.put, s1q, s2q, s3q]
      refine take_E (i := 6) (v := ?_) 10 [9, 8, 6] rfl (by kernel_rfl) (by kernel_rfl) (by kernel_rfl) (by kernel_rfl) rfl (by decide) (by kernel_rfl) rfl (fun _ _ _ h => h) (by rfl) ?_ hHeld ?_
      rotate_left
      ·intro w hSw
       (try dsimp only at hSw)
       go_simp
       try with_reducible rfl
      try simp only [Act.put, s1q, s2q, s3q]
      refine take_E (i := 7) (v := ?_) 10 [9, 8, 7] rfl (by kernel_rfl) (by kernel_rfl) (by kernel_rfl) (by kernel_rfl) rfl (by decide) (by kernel_rfl) rfl (fun _ _ _ h => h) (by rfl) ?_ hHeld ?_
      rotate_left
      ·intro w hSw
       (try dsimp only at hSw)
       go_simp
       try with_reducible rfl
      try simp only [Act.put, s1q, s2q, s3q]
      refine only_E (i := 8) rfl (by kernel_rfl) (fun K hK => ?_)
      clear hHeld
      go_simp
      go_at_call 97
      refine (bbinds_is k n m _ (some ⟨bk, o, none⟩) sl sc j _ hl47 la ll lc rfl).mono ?_
      rintro e w5 ⟨rfl, hb5⟩
      rw [HRR.out]
      have HC5 := Lib.hid ((Below.refl W7.heap.size W7).drew.trans hb5)
      clear hb5
      try (go_wp2_with fail)
      refine (fun (hHeld : (fun W' : World => W'.cell? ⟨Bo, 4, none⟩ = some (.slice (some ⟨BA, 0, none⟩) sl sl) ∧ W'.cell? ⟨wr.heap.size, 0, none⟩ = some (.int .i64 ka) ∧ W'.cell? ⟨wr.heap.size, 1, none⟩ = some (.int .i64 na) ∧ W'.cell? ⟨wr.heap.size, 2, none⟩ = some (.string ma) ∧ W'.cell? ⟨wr.heap.size, 3, none⟩ = some (.slice xa xl xc) ∧ W'.cell? ⟨wr.heap.size, 4, none⟩ = some (.slice ya yl yc) ∧ W'.cell? ⟨w.heap.size, 0, none⟩ = some (.int .i64 k) ∧ W'.cell? ⟨w.heap.size, 1, none⟩ = some (.int .i64 n) ∧ W'.cell? ⟨w.heap.size, 2, none⟩ = some (.string m) ∧ W'.cell? ⟨w.heap.size, 3, none⟩ = some (.slice la ll lc) ∧ W'.cell? ⟨w.heap.size, 4, none⟩ = some (.slice (some ⟨bk, o, none⟩) sl sc)) _) => hK.out _ _ (fun _ => hHeld) ?_) (hk.out _ (grown_of _ HC5.out))
      clear hK K
      try simp only [Act.put, s1q, s2q, s3q]
      refine take_E (i := 9) (v := ?_) 10 [9] rfl (by kernel_rfl) (by kernel_rfl) (by kernel_rfl) (by kernel_rfl) rfl (by decide) (by kernel_rfl) rfl (fun _ _ _ h => h) (by rfl) ?_ hHeld ?_
      rotate_left
      ·intro w hSw
       (try dsimp only at hSw)
       go_simp
       try with_reducible rfl
      try simp only [Act.put, s1q, s2q, s3q]
      refine only_E (i := 10) rfl (by kernel_rfl) (fun K hK => ?_)
      clear hHeld
      go_simp
      go_at_call 66
      try rw [show (d : Int) + (R : Int) = (dn : Int) by omega]
      refine (HCALL.out w5 ((HW7.out.trans (HC5.out.mono HW7.out.size))) ((HC5.out.block Bm (by omega)).trans HM7.out)).mono ?_
      rintro e w8 ⟨u, l9, s9, q', rfl, ht9, hm8, hg8, hq0, hq1, hq2, hq3⟩
      obtain ⟨⟨ua, ul, uc, rfl⟩, va, vl, vc, rfl⟩ := tmP_slices ht9
      have HT9 := Lib.hid ht9
      have HM8 := Lib.hid hm8
      have HQ2 := Lib.hid hq2
      have HQ3 := Lib.hid hq3
      have h58 := HC5.out.size
      have HG8 := Lib.hid (grown_from HC5.out hg8)
      obtain ⟨ku, hku⟩ : ∃ q, tkOf u = q := ⟨_, rfl⟩
      obtain ⟨nu, hnu⟩ : ∃ q, tnOf u = q := ⟨_, rfl⟩
      obtain ⟨mu, hmu⟩ : ∃ q, tmOf u = q := ⟨_, rfl⟩
      dsimp only [tv]
      rw [hku, hnu, hmu]
      have HU := Lib.hid (And.intro hku (And.intro hnu hmu))
      have hA8 := (HG8.out.block BA (by omega) (by simp; omega)).trans HA7.out
      have HA8 := Lib.hid hA8
      clear ht9 hm8 hg8 hq2 hq3 hku hnu hmu
      try (go_wp2_with fail)
      refine (fun (hHeld : (fun W' : World => W'.cell? ⟨Bo, 4, none⟩ = some (.slice (some ⟨BA, 0, none⟩) sl sl) ∧ W'.cell? ⟨wr.heap.size, 0, none⟩ = some (.int .i64 ka) ∧ W'.cell? ⟨wr.heap.size, 1, none⟩ = some (.int .i64 na) ∧ W'.cell? ⟨wr.heap.size, 2, none⟩ = some (.string ma) ∧ W'.cell? ⟨wr.heap.size, 3, none⟩ = some (.slice xa xl xc) ∧ W'.cell? ⟨wr.heap.size, 4, none⟩ = some (.slice ya yl yc) ∧ W'.cell? ⟨w.heap.size, 0, none⟩ = some (.int .i64 k) ∧ W'.cell? ⟨w.heap.size, 1, none⟩ = some (.int .i64 n) ∧ W'.cell? ⟨w.heap.size, 2, none⟩ = some (.string m) ∧ W'.cell? ⟨w.heap.size, 3, none⟩ = some (.slice la ll lc) ∧ W'.cell? ⟨w.heap.size, 4, none⟩ = some (.slice (some ⟨bk, o, none⟩) sl sc)) _) => hK.out _ _ (fun _ => hHeld) ?_) (hk.out _ HG8.out)
      clear hK K
      try simp only [Act.put, s1q, s2q, s3q]
      refine only_E (i := 11) rfl (by kernel_rfl) (fun K hK => ?_)
      clear hHeld
      go_simp
      try (go_wp2_with fail)
      refine (fun (hHeld : (fun W' : World => W'.cell? ⟨Bo, 4, none⟩ = some (.slice (some ⟨BA, 0, none⟩) sl sl) ∧ W'.cell? ⟨wr.heap.size, 0, none⟩ = some (.int .i64 ka) ∧ W'.cell? ⟨wr.heap.size, 1, none⟩ = some (.int .i64 na) ∧ W'.cell? ⟨wr.heap.size, 2, none⟩ = some (.string ma) ∧ W'.cell? ⟨wr.heap.size, 3, none⟩ = some (.slice xa xl xc) ∧ W'.cell? ⟨wr.heap.size, 4, none⟩ = some (.slice ya yl yc) ∧ W'.cell? ⟨w.heap.size, 0, none⟩ = some (.int .i64 k) ∧ W'.cell? ⟨w.heap.size, 1, none⟩ = some (.int .i64 n) ∧ W'.cell? ⟨w.heap.size, 2, none⟩ = some (.string m) ∧ W'.cell? ⟨w.heap.size, 3, none⟩ = some (.slice la ll lc) ∧ W'.cell? ⟨w.heap.size, 4, none⟩ = some (.slice (some ⟨bk, o, none⟩) sl sc)) _) => hK.out _ _ (fun _ => hHeld) ?_) (hk.out _ HG8.out)
      clear hK K
      try simp only [Act.put, s1q, s2q, s3q]
      refine only_E (i := 12) rfl (by kernel_rfl) (fun K hK => ?_)
      clear hHeld
      go_simp
      have hA8 := HA8.out
      have j5 : j * 5 + 4 < arr.size := by omega
      obtain ⟨p0, p0f⟩ := cell_of_arr hA8 (p := j * 5) (by omega)
      obtain ⟨p1, p1f⟩ := cell_of_arr hA8 (p := j * 5 + 1) (by omega)
      obtain ⟨p2, p2f⟩ := cell_of_arr hA8 (p := j * 5 + 2) (by omega)
      obtain ⟨p3, p3f⟩ := cell_of_arr hA8 (p := j * 5 + 3) (by omega)
      obtain ⟨p4, p4f⟩ := cell_of_arr hA8 (p := j * 5 + 4) (by omega)
      go_simp
      have hgs := grown_size HG8.out
      have huj : j < us.length := by omega
      have HSET := Lib.hid (doneTo_set (b := BA) (u := u) (by have := hdone.out; rw [← huz] at this; exact this) huj (fun z hz1 hz2 => (HG8.out.block z (by omega) (by simp; omega)).trans (HBX.out.block z hz1)) (by omega) (by omega) HU.out.1 HU.out.2.1 HU.out.2.2 j5 (tmP_weak (fun z (hz : w5.heap.size ≤ z) => by omega) HT9.out))
      have HAR := Lib.hid (set5_row' (q := j * 5) (x0 := .int .i64 ku) (x1 := .int .i64 nu) (x2 := .string mu) (x3 := .slice ua ul uc) (x4 := .slice va vl vc) hA8)
      have HAZ := Lib.hid (set5_size arr (j * 5) (.int .i64 ku) (.int .i64 nu) (.string mu) (.slice ua ul uc) (.slice va vl vc))
      have HMS : Hid (MkB (((((w8.setCell ⟨BA, j * 5, none⟩ (.int .i64 ku)).setCell ⟨BA, j * 5 + 1, none⟩ (.int .i64 nu)).setCell ⟨BA, j * 5 + 2, none⟩ (.string mu)).setCell ⟨BA, j * 5 + 3, none⟩ (.slice ua ul uc)).setCell ⟨BA, j * 5 + 4, none⟩ (.slice va vl vc)) Bm (.func (.func fid) #[] lb) q') := (set5_far' w8 BA (j * 5) Bm _ _ _ _ _ (by omega)).trans HM8.out
      have HKS := Lib.hid (kpm_set (q := j * 5) (x0 := .int .i64 ku) (x1 := .int .i64 nu) (x2 := .string mu) (x3 := .slice ua ul uc) (x4 := .slice va vl vc) (kpm_grown hgr.out HBX.out HG8.out) : KpM W4 _ Bm BA)
      have HTK : Hid (0 ≤ q' → (us.set j u).take (j + 1) = rs.take (j + 1) ∧ q' = r - 1 - tnodesL (rs.take (j + 1))) := by
       have : 0 ≤ q' → (us.set j u).take (j + 1) = rs.take (j + 1) ∧ q' = r - 1 - tnodesL (rs.take (j + 1)) := fun h => by
        obtain ⟨h1, h2⟩ := hqa.out (by omega)
        have h3 : (tnodes T : Int) ≤ q := by
         rcases Int.lt_or_le q (tnodes T) with h4 | h4
         ·have := HQ3.out h4; omega
         ·exact h4
        obtain ⟨h4, h5⟩ := HQ2.out h3
        refine ⟨take_set h1 huj hu1 (by rw [HTT.out, h4]), ?_⟩
        rw [tnodesL_take hu1, HTT.out]
        omega
       exact this
      have HTB : Hid (q' < 0 → r < 1 + (tnodesL rs : Int)) := by
       have : q' < 0 → r < 1 + (tnodesL rs : Int) := fun h => by
        obtain ⟨h1, h2⟩ := hqa.out (by omega)
        have h3 : q < (tnodes T : Int) := by
         rcases Int.lt_or_le q (tnodes T) with h4 | h4
         ·exact h4
         ·have := (HQ2.out h4).2; omega
        have h4 := tnodesL_le rs (j + 1)
        rw [tnodesL_take hu1, HTT.out] at h4
        omega
       exact this
      refine hK.out _ _ (fun h => by cases h) ?_
      clear hK K p0 p1 p2 p3 p4 p0f p1f p2f p3f p4f hA8 HCALL HA7 HM7 HW7 hk
      try simp only [Act.put, s1q, s2q, s3q]
      refine done_E (by kernel_rfl) ?_ _
      generalize (((((w8.setCell ⟨BA, j * 5, none⟩ (.int .i64 ku)).setCell ⟨BA, j * 5 + 1, none⟩ (.int .i64 nu)).setCell ⟨BA, j * 5 + 2, none⟩ (.string mu)).setCell ⟨BA, j * 5 + 3, none⟩ (.slice ua ul uc)).setCell ⟨BA, j * 5 + 4, none⟩ (.slice va vl vc)) = w9 at *
      go_wp2_with fail
      go_roundw
      case rel => exact ⟨j + 1, _, us.set j u, q', by omega, by go_num, by rw [List.length_set]; exact huz, HAZ.out.trans hasz, by omega, by omega, HTK.out, HTB.out, HAR.out, (by have := HSET.out; rw [List.length_set, huz] at this; exact this), HMS.out, HKS.out⟩
      case measure => simp [intOf]; omega
    ·obtain rfl : sl = j := by omega
     have hln : decide ((sl : Int) < (sl : Int)) = false := by simp
     obtain ⟨e0, e1, e2, e3, e4⟩ := five_cells hrz
     have g0 := frozen0 (p := 0) hrz
     have g1 := frozen0 (p := 1) hrz
     have g2 := frozen0 (p := 2) hrz
     have g3 := frozen0 (p := 3) hrz
     have g4 := frozen0 (p := 4) hrz
     obtain ⟨o0, o1, o2, o3, o4⟩ := five_cells hro
     go_wp2_with fail
     refine bodyPost_ret (results_cell_row rfl _ _ (w.heap.size + 1) 25 _ (0, 0) _ rfl (set5_row hrz) Tryz.underlying25 rfl (by rw [hi0, Option.map_some, hz1]; rfl)) rfl ?_
     refine ⟨.mk k 0 ⟨#[]⟩ [] us, .slice none 0 0, .slice (some ⟨BA, 0, none⟩) sl sl, q, rfl, ?_, ?_, ?_, by omega, by omega, ?_, ?_⟩
     ·rw [TmP]
      refine ⟨lvP_nil _ _, _, _, _, rfl, huz, Nat.le_refl _, by omega, (fun e => by cases e), ?_⟩
      exact tsP_move (w := wr) (fun b hlt (hp : w.heap.size + 2 ≤ b) => ⟨by omega, (set5_far' wr (w.heap.size + 1) 0 b _ _ _ _ _ (by omega))⟩) (by rw [set5_sz]; exact Nat.le_refl _) _ _ _ HQROW.out
     ·exact (set5_far' wr (w.heap.size + 1) 0 Bm _ _ _ _ _ (by omega)).trans hmr.out
     ·exact grown6 HGR.out (by omega)
     ·intro h
      rw [tnodes, nodesL] at h ⊢
      have h0 : 0 ≤ q := by
       rcases Int.lt_or_le q 0 with h1 | h1
       ·have := hqb.out h1; omega
       ·exact h1
      obtain ⟨h1, h2⟩ := hqa.out h0
      have hrl : rs.length = sl := by rw [HRL.out]; exact HLEN.out
      rw [List.take_of_length_le (by omega), List.take_of_length_le (by omega)] at h1
      rw [List.take_of_length_le (by omega)] at h2
      exact ⟨by rw [h1], by omega⟩
     ·intro h
      rw [tnodes, nodesL] at h
      rcases Int.lt_or_le q 0 with h1 | h1
      ·exact h1
      ·obtain ⟨_, h2⟩ := hqa.out h1
       have hrl : rs.length = sl := by rw [HRL.out]; exact HLEN.out
       rw [List.take_of_length_le (by omega)] at h2
       omega
end Bnd
end Go.Proofs.YteomfakbbcpckaaGreatDoor
namespace Go.Proofs.YteomfakbbcpckaaGreatDoor
open Go.RowKit
open Lvl
open Trm
namespace Bnd
mutual
def cntT (p : Int → Bool) : Tm → Nat → Nat
 | .mk k n _ _ ts, d => if k = 1 ∧ (d : Int) ≤ n ∧ p (n - d) = true then 1 else cntA p k ts.length ts 0 d
def cntA (p : Int → Bool) (k : Int) (len : Nat) : List Tm → Nat → Nat → Nat
 | [], _, _ => 0
 | a :: ts, i, d => cntT p a (d + bndP k len i) + cntA p k len ts (i + 1) d
end
mutual
theorem cntT_le (p : Int → Bool) : ∀ (t : Tm) (d : Nat), cntT p t d ≤ tnodes t
 | .mk k n m ls ts, d => by
  rw [cntT, tnodes]
  have := cntA_le p k ts.length ts 0 d
  split <;> omega
theorem cntA_le (p : Int → Bool) (k : Int) (len : Nat) : ∀ (ts : List Tm) (i d : Nat), cntA p k len ts i d ≤ tnodesL ts
 | [], _, _ => by rw [cntA, tnodesL]; omega
 | a :: ts, i, d => by
  rw [cntA, tnodesL]
  have := cntT_le p a (d + bndP k len i)
  have := cntA_le p k len ts (i + 1) d
  omega
end
theorem cntA_append (p : Int → Bool) (k : Int) (len : Nat) : ∀ (l r : List Tm) (i d : Nat), cntA p k len (l ++ r) i d = cntA p k len l i d + cntA p k len r (i + l.length) d
 | [], r, i, d => by rw [List.nil_append, cntA, List.length_nil, Nat.add_zero]; omega
 | a :: l, r, i, d => by
  rw [List.cons_append, cntA, cntA, cntA_append p k len l r, List.length_cons, show i + 1 + l.length = i + (l.length + 1) by omega]
  omega
theorem cntA_take (p : Int → Bool) (k : Int) (len : Nat) {ts : List Tm} {j : Nat} (h : j < ts.length) (d : Nat) : cntA p k len (ts.take (j + 1)) 0 d = cntA p k len (ts.take j) 0 d + cntT p ts[j] (d + bndP k len j) := by
 rw [List.take_add_one, List.getElem?_eq_getElem h, cntA_append, Nat.zero_add, List.length_take, Nat.min_eq_left (by omega)]
 simp [cntA]
def IsC (w0 : World) (f : Nat) (lb : Array Value) (p : Int → Bool) : Prop :=
 ∀ (w1 : World) (n : Int), Below w0.heap.size w0 w1 → Calls Tryz.prog f (#[.int .i64 n] ++ lb) w1 (Ret w1 (.bool (p n)))
theorem cntA_cut (p : Int → Bool) (k : Int) (len : Nat) (ts : List Tm) (j d : Nat) : cntA p k len (ts.take j) 0 d ≤ tnodesL ts :=
 Nat.le_trans (cntA_le p k len (ts.take j) 0 d) (tnodesL_le ts j)
end Bnd
end Go.Proofs.YteomfakbbcpckaaGreatDoor
