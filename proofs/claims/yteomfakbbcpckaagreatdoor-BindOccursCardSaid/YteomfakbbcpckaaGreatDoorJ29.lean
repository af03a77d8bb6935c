/-
  Plain facts and contracts that the law's proof stands on, joined.
  Conditions: each fact's own.
-/
import Derived.Test.YteomfakbbcpckaaGreatDoorJ22
import Derived.Test.YteomfakbbcpckaaGreatDoorJ10
import Derived.Test.YteomfakbbcpckaaGreatDoorJ28
import Derived.Test.YteomfakbbcpckaaGreatDoorJ07
import Derived.Test.YteomfakbbcpckaaGreatDoorJ23
namespace Go.Proofs.YteomfakbbcpckaaGreatDoor
open Go.RowKit
open Lvl
open Trm
namespace Bnd
attribute [local go_sem] run_store_fn
set_option maxRecDepth 100000 in
set_option maxHeartbeats 4000000 in
theorem with_gen (fid : Nat) (lb : Array Value) (F : Tm → Nat → Tm) (C : Tm → Nat → Prop) (t : Tm) (l s : Value) (w : World) (hen : ∀ args w, (callFunc fid args).run Tryz.prog w = .ok (.enter fid args) w) (hpc : PutC w fid lb F C) (hf : ∀ l d, C l d → tnodes (F l d) ≤ 100000) (hm : tnodes t ≤ 100000) (hall : allT C t 0) (ht : TmP w (fun _ => True) t l s) :
  Calls Tryz.prog 39 #[tv t l s, .func (.func fid) #[] lb] w (WithRet (subT F t 0) w) := by
 obtain ⟨i0, hi0, hz0, hz1, hz2⟩ := info_parts infoTm
 obtain ⟨⟨la, ll, lc, rfl⟩, sa, sl, sc, rfl⟩ := tmP_slices ht
 have HMADE := Lib.hid (fun (W : World) (hb : Below w.heap.size w W) (hmk : MkB W (w.heap.size + 1 + 1) (.func (.func fid) #[] lb) 2000) => made_gen fid lb w (w.heap.size + 1 + 1) F C (Lib.hid hen) (Lib.hid hpc) (Lib.hid hf) (by omega) (tnodes t) t 0 2000 (.slice la ll lc) (.slice sa sl sc) W (Nat.le_refl _) (by omega) hall ht hb hmk (by omega) (by omega))
 obtain ⟨T, hT⟩ : ∃ T, subT F t 0 = T := ⟨_, rfl⟩
 rw [hT] at HMADE ⊢
 dsimp only [tv] at HMADE ⊢
 generalize tkOf t = k at *
 generalize tnOf t = n at *
 generalize tmOf t = m at *
 clear hpc hf hm hall ht hT
 go_enter Tryz.func39, Tryz.ntmps39
 go_wp2_with fail
 have z1 : (w.alloc (.cells #[.int .i64 k, .int .i64 n, .string m, .slice la ll lc, .slice sa sl sc] 25)).heap.size = w.heap.size + 1 := by simp
 have z2 : ((w.alloc (.cells #[.int .i64 k, .int .i64 n, .string m, .slice la ll lc, .slice sa sl sc] 25)).alloc (.cells #[.int .i64 0, .int .i64 0, .string ⟨#[]⟩, .slice none 0 0, .slice none 0 0] 25)).heap.size = w.heap.size + 1 + 1 := by simp
 have z3 : (((w.alloc (.cells #[.int .i64 k, .int .i64 n, .string m, .slice la ll lc, .slice sa sl sc] 25)).alloc (.cells #[.int .i64 0, .int .i64 0, .string ⟨#[]⟩, .slice none 0 0, .slice none 0 0] 25)).alloc (.cells #[.func (.func fid) #[] lb, .int .i64 2000] 83)).heap.size = w.heap.size + 1 + 1 + 1 := by simp
 have r0 : (w.alloc (.cells #[.int .i64 k, .int .i64 n, .string m, .slice la ll lc, .slice sa sl sc] 25)).heap[w.heap.size]? = some (Obj.cells #[.int .i64 k, .int .i64 n, .string m, .slice la ll lc, .slice sa sl sc] 25 (0, 0)) := by
  have := heap_alloc_new w (.cells #[.int .i64 k, .int .i64 n, .string m, .slice la ll lc, .slice sa sl sc] 25)
  exact this
 have r1 : ((w.alloc (.cells #[.int .i64 k, .int .i64 n, .string m, .slice la ll lc, .slice sa sl sc] 25)).alloc (.cells #[.int .i64 0, .int .i64 0, .string ⟨#[]⟩, .slice none 0 0, .slice none 0 0] 25)).heap[w.heap.size + 1]? = some (Obj.cells #[.int .i64 0, .int .i64 0, .string ⟨#[]⟩, .slice none 0 0, .slice none 0 0] 25 (0, 0)) := by
  have := heap_alloc_new (w.alloc (.cells #[.int .i64 k, .int .i64 n, .string m, .slice la ll lc, .slice sa sl sc] 25)) (.cells #[.int .i64 0, .int .i64 0, .string ⟨#[]⟩, .slice none 0 0, .slice none 0 0] 25)
  rwa [z1] at this
 have r2 : (((w.alloc (.cells #[.int .i64 k, .int .i64 n, .string m, .slice la ll lc, .slice sa sl sc] 25)).alloc (.cells #[.int .i64 0, .int .i64 0, .string ⟨#[]⟩, .slice none 0 0, .slice none 0 0] 25)).alloc (.cells #[.func (.func fid) #[] lb, .int .i64 2000] 83)).heap[w.heap.size + 1 + 1]? = some (Obj.cells #[.func (.func fid) #[] lb, .int .i64 2000] 83 (0, 0)) := by
  have := heap_alloc_new ((w.alloc (.cells #[.int .i64 k, .int .i64 n, .string m, .slice la ll lc, .slice sa sl sc] 25)).alloc (.cells #[.int .i64 0, .int .i64 0, .string ⟨#[]⟩, .slice none 0 0, .slice none 0 0] 25)) (.cells #[.func (.func fid) #[] lb, .int .i64 2000] 83)
  rwa [z2] at this
 have HB := Lib.hid (((below_lit w (.cells #[.int .i64 k, .int .i64 n, .string m, .slice la ll lc, .slice sa sl sc] 25)).trans ((below_lit (w.alloc (.cells #[.int .i64 k, .int .i64 n, .string m, .slice la ll lc, .slice sa sl sc] 25)) (.cells #[.int .i64 0, .int .i64 0, .string ⟨#[]⟩, .slice none 0 0, .slice none 0 0] 25)).mono (below_lit w (.cells #[.int .i64 k, .int .i64 n, .string m, .slice la ll lc, .slice sa sl sc] 25)).size)).trans ((below_lit ((w.alloc (.cells #[.int .i64 k, .int .i64 n, .string m, .slice la ll lc, .slice sa sl sc] 25)).alloc (.cells #[.int .i64 0, .int .i64 0, .string ⟨#[]⟩, .slice none 0 0, .slice none 0 0] 25)) (.cells #[.func (.func fid) #[] lb, .int .i64 2000] 83)).mono ((below_lit w (.cells #[.int .i64 k, .int .i64 n, .string m, .slice la ll lc, .slice sa sl sc] 25)).trans ((below_lit (w.alloc (.cells #[.int .i64 k, .int .i64 n, .string m, .slice la ll lc, .slice sa sl sc] 25)) (.cells #[.int .i64 0, .int .i64 0, .string ⟨#[]⟩, .slice none 0 0, .slice none 0 0] 25)).mono (below_lit w (.cells #[.int .i64 k, .int .i64 n, .string m, .slice la ll lc, .slice sa sl sc] 25)).size)).size))
 have HR0 := Lib.hid ((heap_alloc_old ((w.alloc (.cells #[.int .i64 k, .int .i64 n, .string m, .slice la ll lc, .slice sa sl sc] 25)).alloc (.cells #[.int .i64 0, .int .i64 0, .string ⟨#[]⟩, .slice none 0 0, .slice none 0 0] 25)) (.cells #[.func (.func fid) #[] lb, .int .i64 2000] 83) (by rw [z2]; omega)).trans ((heap_alloc_old (w.alloc (.cells #[.int .i64 k, .int .i64 n, .string m, .slice la ll lc, .slice sa sl sc] 25)) (.cells #[.int .i64 0, .int .i64 0, .string ⟨#[]⟩, .slice none 0 0, .slice none 0 0] 25) (by rw [z1]; omega)).trans (r0)))
 have HR1 := Lib.hid ((heap_alloc_old ((w.alloc (.cells #[.int .i64 k, .int .i64 n, .string m, .slice la ll lc, .slice sa sl sc] 25)).alloc (.cells #[.int .i64 0, .int .i64 0, .string ⟨#[]⟩, .slice none 0 0, .slice none 0 0] 25)) (.cells #[.func (.func fid) #[] lb, .int .i64 2000] 83) (by rw [z2]; omega)).trans (r1))
 have HR2 := Lib.hid (r2)
 clear r0 r1 r2
 generalize (((w.alloc (.cells #[.int .i64 k, .int .i64 n, .string m, .slice la ll lc, .slice sa sl sc] 25)).alloc (.cells #[.int .i64 0, .int .i64 0, .string ⟨#[]⟩, .slice none 0 0, .slice none 0 0] 25)).alloc (.cells #[.func (.func fid) #[] lb, .int .i64 2000] 83)) = W3 at *
 have HZ := Lib.hid z3
 clear z1 z2 z3
 have hz := HZ.out
 refine (HMADE.out W3 HB.out HR2.out).mono ?_
 rintro e w4 ⟨t9, l9, s9, q, rfl, ht9, hm9, hg9, hq0, hq1, hq2, hq3⟩
 obtain ⟨⟨ua, ul, uc, rfl⟩, va, vl, vc, rfl⟩ := tmP_slices ht9
 obtain ⟨ku, hku⟩ : ∃ q, tkOf t9 = q := ⟨_, rfl⟩
 obtain ⟨nu, hnu⟩ : ∃ q, tnOf t9 = q := ⟨_, rfl⟩
 obtain ⟨mu, hmu⟩ : ∃ q, tmOf t9 = q := ⟨_, rfl⟩
 dsimp only [tv]
 rw [hku, hnu, hmu]
 have HU := Lib.hid (And.intro hku (And.intro hnu hmu))
 have hs4 := grown_size hg9
 have hbx := below_lit w4 (.cells #[.int .i64 ku, .int .i64 nu, .string mu, .slice ua ul uc, .slice va vl vc] 25)
 have hrx := heap_alloc_new w4 (.cells #[.int .i64 ku, .int .i64 nu, .string mu, .slice ua ul uc, .slice va vl vc] 25)
 have HB4 := Lib.hid ((HB.out.grown hg9 HB.out.size (fun k e => by cases e; omega)).trans (hbx.mono (by omega)))
 have HBX := Lib.hid hbx
 have hmx := (hbx.block (w.heap.size + 1 + 1) (by omega)).trans hm9
 have hrz := (hbx.block (w.heap.size + 1) (by omega)).trans ((hg9.block (w.heap.size + 1) (by omega) (by simp; try omega)).trans HR1.out)
 obtain ⟨mm0, mm1, mmf⟩ := MkB.cells hmx
 obtain ⟨o0, o1, o2, o3, o4⟩ := five_cells hrx
 obtain ⟨e0, e1, e2, e3, e4⟩ := five_cells hrz
 have g0 := frozen0 (p := 0) hrz
 have g1 := frozen0 (p := 1) hrz
 have g2 := frozen0 (p := 2) hrz
 have g3 := frozen0 (p := 3) hrz
 have g4 := frozen0 (p := 4) hrz
 have HQ2 := Lib.hid hq2
 have HQ3 := Lib.hid hq3
 have HT9 := Lib.hid ht9
 clear hku hnu hmu hg9 hbx hm9 ht9 hq2 hq3 HMADE
 go_upto_region 3 with fail
 generalize w4.alloc (.cells #[.int .i64 ku, .int .i64 nu, .string mu, .slice ua ul uc, .slice va vl vc] 25) = w5 at *
 by_cases hqn : q < 0
 ·have hqd : decide (q < 0) = true := by simp; omega
  go_wp2_with fail
  refine bodyPost_ret (results_row_tmp rfl _ _ (w.heap.size + 1) 25 _ (0, 0) _ rfl (set5_row hrz) Tryz.underlying25 rfl (by rw [hi0, Option.map_some, hz1]; rfl)) rfl ?_
  refine ⟨set5_below HB4.out _ 0 _ _ _ _ _ (by omega), ?_⟩
  have h1 : ¬ tnodes T ≤ 2000 := fun h => by
   have := (HQ2.out (by omega)).2
   omega
  rw [if_neg h1]
  rfl
 ·have hqd : decide (q < 0) = false := by simp; omega
  go_wp2_with fail
  refine bodyPost_ret (results_row_tmp rfl _ _ (w.heap.size + 1) 25 _ (0, 0) _ rfl (set5_row hrz) Tryz.underlying25 rfl (by rw [hi0, Option.map_some, hz1]; rfl)) rfl ?_
  refine ⟨set5_below HB4.out _ 0 _ _ _ _ _ (by omega), ?_⟩
  have h1 : (tnodes T : Int) ≤ 2000 := by
   rcases Int.lt_or_le 2000 (tnodes T) with h | h
   ·have := HQ3.out h; omega
   ·exact h
  obtain ⟨rfl, _⟩ := HQ2.out h1
  rw [if_pos (by omega)]
  refine ⟨.slice ua ul uc, .slice va vl vc, by dsimp only [tv]; rw [HU.out.1, HU.out.2.1, HU.out.2.2]; rfl, ?_⟩
  exact tmP_move (w := w4) (fun b hlt (hp : W3.heap.size ≤ b) => ⟨by omega, (set5_far' w5 (w.heap.size + 1) 0 b _ _ _ _ _ (by omega)).trans (HBX.out.block b hlt)⟩) (by rw [set5_sz]; exact HBX.out.size) _ _ _ HT9.out
end Bnd
end Go.Proofs.YteomfakbbcpckaaGreatDoor
namespace Go.Proofs.YteomfakbbcpckaaGreatDoor
open Go.RowKit
open Lvl
open Trm
namespace Bnd
theorem with_raised (Bc0 Bc1 : Nat) (F : Tm → Nat → Tm) (C : Tm → Nat → Prop) (t : Tm) (l s : Value) (w : World) (hpc : PutC w 67 #[.pointer (some ⟨Bc0, 0, none⟩), .pointer (some ⟨Bc1, 0, none⟩)] F C) (hf : ∀ l d, C l d → tnodes (F l d) ≤ 100000) (hm : tnodes t ≤ 100000) (hall : allT C t 0) (ht : TmP w (fun _ => True) t l s) :
  Calls Tryz.prog 39 #[tv t l s, .func (.func 67) #[] #[.pointer (some ⟨Bc0, 0, none⟩), .pointer (some ⟨Bc1, 0, none⟩)]] w (WithRet (subT F t 0) w) :=
 with_gen 67 #[.pointer (some ⟨Bc0, 0, none⟩), .pointer (some ⟨Bc1, 0, none⟩)] F C t l s w (enters_of Tryz.func67 (by kernel_rfl) rfl) hpc hf hm hall ht
end Bnd
end Go.Proofs.YteomfakbbcpckaaGreatDoor
namespace Go.Proofs.YteomfakbbcpckaaGreatDoor
open Go.RowKit
open Lvl
open Trm
namespace Bnd
def BRet (w : World) (ok : Bool) (T : Tm) (e : Ending) (w' : World) : Prop :=
 Below w.heap.size w w' ∧ if ok = true then ∃ l s, e = .returned (.tuple #[tv T l s, .bool true]) ∧ TmP w' (fun b => w.heap.size ≤ b) T l s else e = .returned (.tuple #[.agg #[.int .i64 0, .int .i64 0, .string ⟨#[]⟩, .slice none 0 0, .slice none 0 0], .bool false])
def farB (n : Int) : Bool := decide (n < 0 ∨ 1048576 < n)
theorem farB_no {n : Int} (h : farB n = false) : 0 ≤ n ∧ n ≤ 1048576 := by
 unfold farB at h
 have := of_decide_eq_false h
 omega
theorem PutC.below {w w' : World} {f : Nat} {lb : Array Value} {F : Tm → Nat → Tm} {C : Tm → Nat → Prop} (h : PutC w f lb F C) (hb : Below w.heap.size w w') : PutC w' f lb F C :=
 fun w1 k n m ls l sa sc d hw hl hd hC => h w1 k n m ls l sa sc d (hb.trans (hw.mono hb.size)) hl hd hC
theorem braised_ex (RN : ByteArray → Bool) (by' fr : Int) (h0 : -2000000 ≤ by') (h1 : by' ≤ 2000000) (w : World) :
  Calls Tryz.prog 40 #[.int .i64 by', .int .i64 fr] w (fun e w' => ∃ Bf Bb, e = .returned (.func (.func 67) #[] #[.pointer (some ⟨Bf, 0, none⟩), .pointer (some ⟨Bb, 0, none⟩)]) ∧ PutC w' 67 #[.pointer (some ⟨Bf, 0, none⟩), .pointer (some ⟨Bb, 0, none⟩)] (raF by' fr) (cRa RN) ∧ Below w.heap.size w w') := by
 refine (braised_is by' fr w).mono ?_
 rintro e w' ⟨rfl, hcf, hcb, hs, hb⟩
 exact ⟨_, _, rfl, put_raised RN w' _ _ by' fr h0 h1 hcf hcb, hb⟩
set_option maxRecDepth 100000 in
set_option maxHeartbeats 2000000 in
theorem place_is (RN : ByteArray → Bool) (k n : Int) (m : ByteArray) (la : Option Addr) (ll lc : Nat) (sa : Option Addr) (sl sc d : Nat) (u : Tm) (l s : Value) (w : World) (ht : TmP w (fun _ => True) u l s) (hr : rightT RN 4 u 1125899906842624 = true) (hd : d ≤ 1000000) :
  Calls Tryz.prog 44 #[.agg #[.int .i64 k, .int .i64 n, .string m, .slice la ll lc, .slice sa sl sc, .int .i64 d], tv u l s] w (TmRet w (subT (raF (d : Int) 0) u 0)) := by
 obtain ⟨i0, hi0, hz0, hz1, hz2⟩ := info_parts infoTm
 obtain ⟨⟨ua, ul, uc, rfl⟩, va, vl, vc, rfl⟩ := tmP_slices ht
 have HTU := Lib.hid ht
 have HRA := Lib.hid (ra_leaves hr)
 have hum := (rightT_ok hr).2.1
 have hxn := right_nodes (d : Int) 0 hr
 obtain ⟨X, hX⟩ : ∃ X, subT (raF (d : Int) 0) u 0 = X := ⟨_, rfl⟩
 have HX := Lib.hid hX
 rw [hX] at hxn ⊢
 have HX2 : Hid (tnodes X ≤ 2000) := by
  have : tnodes X ≤ 2000 := by omega
  exact this
 obtain ⟨kx, hkx⟩ : ∃ q, tkOf X = q := ⟨_, rfl⟩
 obtain ⟨nx, hnx⟩ : ∃ q, tnOf X = q := ⟨_, rfl⟩
 obtain ⟨mx, hmx⟩ : ∃ q, tmOf X = q := ⟨_, rfl⟩
 have HXX := Lib.hid (And.intro hkx (And.intro hnx hmx))
 dsimp only [tv]
 obtain ⟨ku, hku⟩ : ∃ q, tkOf u = q := ⟨_, rfl⟩
 obtain ⟨nu, hnu⟩ : ∃ q, tnOf u = q := ⟨_, rfl⟩
 obtain ⟨mu, hmu⟩ : ∃ q, tmOf u = q := ⟨_, rfl⟩
 rw [hku, hnu, hmu]
 have HUU := Lib.hid (And.intro hku (And.intro hnu hmu))
 clear ht hr hX hxn hkx hnx hmx hku hnu hmu
 go_enter Tryz.func44, Tryz.ntmps44
 go_upto_region 1 with fail
 have z1 : (w.alloc (.cells #[.int .i64 k, .int .i64 n, .string m, .slice la ll lc, .slice sa sl sc, .int .i64 d] 62)).heap.size = w.heap.size + 1 := by simp
 have z2 : ((w.alloc (.cells #[.int .i64 k, .int .i64 n, .string m, .slice la ll lc, .slice sa sl sc, .int .i64 d] 62)).alloc (.cells #[.int .i64 ku, .int .i64 nu, .string mu, .slice ua ul uc, .slice va vl vc] 25)).heap.size = w.heap.size + 1 + 1 := by simp
 have z3 : (((w.alloc (.cells #[.int .i64 k, .int .i64 n, .string m, .slice la ll lc, .slice sa sl sc, .int .i64 d] 62)).alloc (.cells #[.int .i64 ku, .int .i64 nu, .string mu, .slice ua ul uc, .slice va vl vc] 25)).alloc (.cells #[.int .i64 0, .int .i64 0, .string ⟨#[]⟩, .slice none 0 0, .slice none 0 0] 25)).heap.size = w.heap.size + 1 + 1 + 1 := by simp
 have r0 : (w.alloc (.cells #[.int .i64 k, .int .i64 n, .string m, .slice la ll lc, .slice sa sl sc, .int .i64 d] 62)).heap[w.heap.size]? = some (Obj.cells #[.int .i64 k, .int .i64 n, .string m, .slice la ll lc, .slice sa sl sc, .int .i64 d] 62 (0, 0)) := by
  have := heap_alloc_new w (.cells #[.int .i64 k, .int .i64 n, .string m, .slice la ll lc, .slice sa sl sc, .int .i64 d] 62)
  exact this
 have r1 : ((w.alloc (.cells #[.int .i64 k, .int .i64 n, .string m, .slice la ll lc, .slice sa sl sc, .int .i64 d] 62)).alloc (.cells #[.int .i64 ku, .int .i64 nu, .string mu, .slice ua ul uc, .slice va vl vc] 25)).heap[w.heap.size + 1]? = some (Obj.cells #[.int .i64 ku, .int .i64 nu, .string mu, .slice ua ul uc, .slice va vl vc] 25 (0, 0)) := by
  have := heap_alloc_new (w.alloc (.cells #[.int .i64 k, .int .i64 n, .string m, .slice la ll lc, .slice sa sl sc, .int .i64 d] 62)) (.cells #[.int .i64 ku, .int .i64 nu, .string mu, .slice ua ul uc, .slice va vl vc] 25)
  rwa [z1] at this
 have r2 : (((w.alloc (.cells #[.int .i64 k, .int .i64 n, .string m, .slice la ll lc, .slice sa sl sc, .int .i64 d] 62)).alloc (.cells #[.int .i64 ku, .int .i64 nu, .string mu, .slice ua ul uc, .slice va vl vc] 25)).alloc (.cells #[.int .i64 0, .int .i64 0, .string ⟨#[]⟩, .slice none 0 0, .slice none 0 0] 25)).heap[w.heap.size + 1 + 1]? = some (Obj.cells #[.int .i64 0, .int .i64 0, .string ⟨#[]⟩, .slice none 0 0, .slice none 0 0] 25 (0, 0)) := by
  have := heap_alloc_new ((w.alloc (.cells #[.int .i64 k, .int .i64 n, .string m, .slice la ll lc, .slice sa sl sc, .int .i64 d] 62)).alloc (.cells #[.int .i64 ku, .int .i64 nu, .string mu, .slice ua ul uc, .slice va vl vc] 25)) (.cells #[.int .i64 0, .int .i64 0, .string ⟨#[]⟩, .slice none 0 0, .slice none 0 0] 25)
  rwa [z2] at this
 have HB := Lib.hid (((below_lit w (.cells #[.int .i64 k, .int .i64 n, .string m, .slice la ll lc, .slice sa sl sc, .int .i64 d] 62)).trans ((below_lit (w.alloc (.cells #[.int .i64 k, .int .i64 n, .string m, .slice la ll lc, .slice sa sl sc, .int .i64 d] 62)) (.cells #[.int .i64 ku, .int .i64 nu, .string mu, .slice ua ul uc, .slice va vl vc] 25)).mono (below_lit w (.cells #[.int .i64 k, .int .i64 n, .string m, .slice la ll lc, .slice sa sl sc, .int .i64 d] 62)).size)).trans ((below_lit ((w.alloc (.cells #[.int .i64 k, .int .i64 n, .string m, .slice la ll lc, .slice sa sl sc, .int .i64 d] 62)).alloc (.cells #[.int .i64 ku, .int .i64 nu, .string mu, .slice ua ul uc, .slice va vl vc] 25)) (.cells #[.int .i64 0, .int .i64 0, .string ⟨#[]⟩, .slice none 0 0, .slice none 0 0] 25)).mono ((below_lit w (.cells #[.int .i64 k, .int .i64 n, .string m, .slice la ll lc, .slice sa sl sc, .int .i64 d] 62)).trans ((below_lit (w.alloc (.cells #[.int .i64 k, .int .i64 n, .string m, .slice la ll lc, .slice sa sl sc, .int .i64 d] 62)) (.cells #[.int .i64 ku, .int .i64 nu, .string mu, .slice ua ul uc, .slice va vl vc] 25)).mono (below_lit w (.cells #[.int .i64 k, .int .i64 n, .string m, .slice la ll lc, .slice sa sl sc, .int .i64 d] 62)).size)).size))
 have HR0 := Lib.hid ((heap_alloc_old ((w.alloc (.cells #[.int .i64 k, .int .i64 n, .string m, .slice la ll lc, .slice sa sl sc, .int .i64 d] 62)).alloc (.cells #[.int .i64 ku, .int .i64 nu, .string mu, .slice ua ul uc, .slice va vl vc] 25)) (.cells #[.int .i64 0, .int .i64 0, .string ⟨#[]⟩, .slice none 0 0, .slice none 0 0] 25) (by rw [z2]; omega)).trans ((heap_alloc_old (w.alloc (.cells #[.int .i64 k, .int .i64 n, .string m, .slice la ll lc, .slice sa sl sc, .int .i64 d] 62)) (.cells #[.int .i64 ku, .int .i64 nu, .string mu, .slice ua ul uc, .slice va vl vc] 25) (by rw [z1]; omega)).trans (r0)))
 have HR1 := Lib.hid ((heap_alloc_old ((w.alloc (.cells #[.int .i64 k, .int .i64 n, .string m, .slice la ll lc, .slice sa sl sc, .int .i64 d] 62)).alloc (.cells #[.int .i64 ku, .int .i64 nu, .string mu, .slice ua ul uc, .slice va vl vc] 25)) (.cells #[.int .i64 0, .int .i64 0, .string ⟨#[]⟩, .slice none 0 0, .slice none 0 0] 25) (by rw [z2]; omega)).trans (r1))
 have HR2 := Lib.hid (r2)
 clear r0 r1 r2
 generalize (((w.alloc (.cells #[.int .i64 k, .int .i64 n, .string m, .slice la ll lc, .slice sa sl sc, .int .i64 d] 62)).alloc (.cells #[.int .i64 ku, .int .i64 nu, .string mu, .slice ua ul uc, .slice va vl vc] 25)).alloc (.cells #[.int .i64 0, .int .i64 0, .string ⟨#[]⟩, .slice none 0 0, .slice none 0 0] 25)) = W3 at *
 have HZ := Lib.hid z3
 clear z1 z2 z3
 have HSC : Hid (W3.heap.size = w.heap.size + 1 + 1 + 1) := HZ.out
 have hk : Hid (∀ W', Below W3.heap.size W3 W' → W'.cell? ⟨w.heap.size + 1, 0, none⟩ = some (.int .i64 ku) ∧ W'.cell? ⟨w.heap.size + 1, 1, none⟩ = some (.int .i64 nu) ∧ W'.cell? ⟨w.heap.size + 1, 2, none⟩ = some (.string mu) ∧ W'.cell? ⟨w.heap.size + 1, 3, none⟩ = some (.slice ua ul uc) ∧ W'.cell? ⟨w.heap.size + 1, 4, none⟩ = some (.slice va vl vc) ∧ W'.cell? ⟨w.heap.size, 5, none⟩ = some (.int .i64 d)) := fun W' h => by
  have hz := HZ.out
  obtain ⟨a0, a1, a2, a3, a4⟩ := five_cells ((h.block (w.heap.size + 1) (by omega)).trans HR1.out)
  exact ⟨a0, a1, a2, a3, a4, (six_cells ((h.block (w.heap.size) (by omega)).trans HR0.out)).2.2.2.2.2⟩
 refine wp_mono (Q := fun e a' W' => e = .normal ∧ ∃ (Bo : Nat) (fv : Value) (xa : Option Addr) (xl xc : Nat) (ya : Option Addr) (yl yc : Nat), (w.heap.size + 1 + 1 + 1 ≤ Bo ∧ Bo < W'.heap.size ∧ Below W3.heap.size W3 W' ∧ W'.heap[Bo]? = some (.cells #[.int .i64 kx, .int .i64 nx, .string mx, .slice xa xl xc, .slice ya yl yc] 25 (0, 0)) ∧ TmP W' (fun b => w.heap.size + 1 + 1 + 1 ≤ b ∧ b ≠ Bo) X (.slice xa xl xc) (.slice ya yl yc)) ∧ a' = { tmps := #[.agg #[.int .i64 k, .int .i64 n, .string m, .slice la ll lc, .slice sa sl sc, .int .i64 d], .agg #[.int .i64 ku, .int .i64 nu, .string mu, .slice ua ul uc, .slice va vl vc], .pointer (some ⟨w.heap.size, 0, none⟩), .pointer (some ⟨w.heap.size + 1, 0, none⟩), .pointer (some ⟨w.heap.size + 1 + 1, 0, none⟩), .pointer (some ⟨Bo, 0, none⟩), .bool true, .tuple #[.agg #[.int .i64 kx, .int .i64 nx, .string mx, .slice xa xl xc, .slice ya yl yc], .bool true], .agg #[.int .i64 ku, .int .i64 nu, .string mu, .slice ua ul uc, .slice va vl vc], .pointer (some ⟨w.heap.size, 5, none⟩), .int .i64 d, fv, .tuple #[.agg #[.int .i64 kx, .int .i64 nx, .string mx, .slice xa xl xc, .slice ya yl yc], .bool true], .agg #[.int .i64 kx, .int .i64 nx, .string mx, .slice xa xl xc, .slice ya yl yc], .bool true, undef], defers := [] }) ?region ?rest
 case region =>
  refine wp_region_held_drew (S := fun W' => W'.cell? ⟨w.heap.size + 1, 0, none⟩ = some (.int .i64 ku) ∧ W'.cell? ⟨w.heap.size + 1, 1, none⟩ = some (.int .i64 nu) ∧ W'.cell? ⟨w.heap.size + 1, 2, none⟩ = some (.string mu) ∧ W'.cell? ⟨w.heap.size + 1, 3, none⟩ = some (.slice ua ul uc) ∧ W'.cell? ⟨w.heap.size + 1, 4, none⟩ = some (.slice va vl vc) ∧ W'.cell? ⟨w.heap.size, 5, none⟩ = some (.int .i64 d)) (by kernel_rfl) (hk.out _ ((Below.refl _ _).drew)) (fun hHeld => ?_)
  refine take_in (i := 0) (v := ?_) rfl (by kernel_rfl) (by kernel_rfl) (by kernel_rfl) (fun _ _ _ h => by cases h.1) (by rfl) ?_ hHeld ?_
  rotate_left
  ·intro w hSw
   (try dsimp only at hSw)
   go_simp
   try with_reducible rfl
  try simp only [Act.put, s1q, s2q, s3q]
  refine take_in (i := 1) (v := ?_) rfl (by kernel_rfl) (by kernel_rfl) (by kernel_rfl) (fun _ _ _ h => by cases h.1) (by rfl) ?_ hHeld ?_
  rotate_left
  ·intro w hSw
   (try dsimp only at hSw)
   go_simp
   try with_reducible rfl
  try simp only [Act.put, s1q, s2q, s3q]
  refine take_in (i := 2) (v := ?_) rfl (by kernel_rfl) (by kernel_rfl) (by kernel_rfl) (fun _ _ _ h => by cases h.1) (by rfl) ?_ hHeld ?_
  rotate_left
  ·intro w hSw
   (try dsimp only at hSw)
   go_simp
   try with_reducible rfl
  try simp only [Act.put, s1q, s2q, s3q]
  refine two_in (i := 3) (j := 8) rfl rfl (by kernel_rfl) (fun K hK => ?_) (fun K hK => ?_)
  ·clear hHeld
   go_simp
   refine (braised_ex RN (d : Int) 0 (by omega) (by omega) _).mono ?_
   rintro e v5 ⟨Bf, Bb, rfl, hpc, hbq⟩
   have HPC := Lib.hid hpc
   have Hv5 := Lib.hid (((Below.refl W3.heap.size W3).drew).trans (hbq))
   clear hpc hbq
   try (go_wp2_with fail)
   refine hK.out _ _ (hk.out _ (Hv5.out)) (fun hHeld => ?_)
   clear hK K
   try simp only [Act.put, s1q, s2q, s3q]
   refine two_in (i := 4) (j := 8) rfl rfl (by kernel_rfl) (fun K hK => ?_) (fun K hK => ?_)
   ·clear hHeld
    go_simp
    have hw := with_raised Bf Bb (raF (d : Int) 0) (cRa RN) u (.slice ua ul uc) (.slice va vl vc) v5 HPC.out (ra_few (d : Int) 0) (by omega) HRA.out (tmP_below (HB.out.trans ((Hv5.out).mono HB.out.size)) HTU.out)
    dsimp only [tv] at hw
    rw [HUU.out.1, HUU.out.2.1, HUU.out.2.2] at hw
    refine hw.mono ?_
    clear hw
    rintro e v6 ⟨hbq, hres⟩
    rw [HX.out, if_pos HX2.out] at hres
    obtain ⟨l9, s9, rfl, ht9⟩ := hres
    obtain ⟨⟨xa, xl, xc, rfl⟩, ya, yl, yc, rfl⟩ := tmP_slices ht9
    dsimp only [tv]
    rw [HXX.out.1, HXX.out.2.1, HXX.out.2.2]
    have HT9 := Lib.hid ht9
    have Hv6 := Lib.hid ((Hv5.out).trans (hbq.mono (Hv5.out).size))
    clear hbq ht9
    have HLE : Hid (∀ b, v5.heap.size ≤ b → W3.heap.size ≤ b) := by
     have : ∀ b, v5.heap.size ≤ b → W3.heap.size ≤ b := fun b h => by have := Hv5.out.size; omega
     exact this
    try (go_wp2_with fail)
    refine hK.out _ _ (hk.out _ (Hv6.out)) (fun hHeld => ?_)
    clear hK K
    try simp only [Act.put, s1q, s2q, s3q]
    refine take_in (i := 5) (v := ?_) rfl (by kernel_rfl) (by kernel_rfl) (by kernel_rfl) (fun _ _ _ h => by cases h.1) (by rfl) ?_ hHeld ?_
    rotate_left
    ·intro w hSw
     (try dsimp only at hSw)
     go_simp
     try with_reducible rfl
    try simp only [Act.put, s1q, s2q, s3q]
    refine take_in (i := 6) (v := ?_) rfl (by kernel_rfl) (by kernel_rfl) (by kernel_rfl) (fun _ _ _ h => by cases h.1) (by rfl) ?_ hHeld ?_
    rotate_left
    ·intro w hSw
     (try dsimp only at hSw)
     go_simp
     try with_reducible rfl
    try simp only [Act.put, s1q, s2q, s3q]
    refine take_in (i := 7) (v := ?_) rfl (by kernel_rfl) (by kernel_rfl) (by kernel_rfl) (fun _ _ _ h => by cases h.1) (by rfl) ?_ hHeld ?_
    rotate_left
    ·intro w hSw
     (try dsimp only at hSw)
     go_simp
     try with_reducible rfl
    try simp only [Act.put, s1q, s2q, s3q]
    refine call_in (i := 8) rfl (by kernel_rfl) (fun K hK => ?_)
    clear hHeld
    go_simp
    have hb7 := below_lit v6 (.cells #[.int .i64 0, .int .i64 0, .string ⟨#[]⟩, .slice none 0 0, .slice none 0 0] 25)
    have n0 := heap_alloc_new v6 (.cells #[.int .i64 0, .int .i64 0, .string ⟨#[]⟩, .slice none 0 0, .slice none 0 0] 25)
    try (go_wp2_with fail)
    refine hK.out _ _ (hk.out _ (Hv6.out.trans (hb7.mono Hv6.out.size))) (fun hHeld => ?_)
    clear hK K
    try simp only [Act.put, s1q, s2q, s3q]
    refine call_in (i := 9) rfl (by kernel_rfl) (fun K hK => ?_)
    clear hHeld
    go_simp
    have hb8 := below_lit v6 (.cells #[.int .i64 kx, .int .i64 nx, .string mx, .slice xa xl xc, .slice ya yl yc] 25)
    refine hK.out _ _ (hk.out _ (Hv6.out.trans (hb8.mono Hv6.out.size))) (fun hHeld => ?_)
    clear hK K
    try simp only [Act.put, s1q, s2q, s3q]
    refine take_in (i := 10) (v := ?_) rfl (by kernel_rfl) (by kernel_rfl) (by kernel_rfl) (fun _ _ _ h => by cases h.1) (by rfl) ?_ hHeld ?_
    rotate_left
    ·intro w hSw
     (try dsimp only at hSw)
     go_simp
     try with_reducible rfl
    try simp only [Act.put, s1q, s2q, s3q]
    refine wpAnyH_done (by kernel_rfl) ?_ _
    have q5 := Hv6.out.size
    have q6 := HSC.out
    refine ⟨rfl, v6.heap.size, _, xa, xl, xc, ya, yl, yc, ⟨by omega, by simp, Hv6.out.trans (hb8.mono Hv6.out.size), heap_alloc_new v6 _, ?_⟩, rfl⟩
    exact tmP_move (fun b hlt hp => ⟨⟨by have := HLE.out b hp; omega, by omega⟩, hb8.block b hlt⟩) hb8.size _ _ _ HT9.out
   ·clear hHeld
    go_simp
    have hbz := below_lit v5 (.cells #[.int .i64 0, .int .i64 0, .string ⟨#[]⟩, .slice none 0 0, .slice none 0 0] 25)
    have hrz := heap_alloc_new v5 (.cells #[.int .i64 0, .int .i64 0, .string ⟨#[]⟩, .slice none 0 0, .slice none 0 0] 25)
    have HV5S := Lib.hid Hv5.out.size
    have hv5b := Hv5.out.trans (hbz.mono Hv5.out.size)
    have hs5 : (v5.alloc (.cells #[.int .i64 0, .int .i64 0, .string ⟨#[]⟩, .slice none 0 0, .slice none 0 0] 25)).heap.size = v5.heap.size + 1 := by simp
    try (go_wp2_with fail)
    refine hK.out _ _ (hk.out _ hv5b) (fun hHeld => ?_)
    clear hK K
    try simp only [Act.put, s1q, s2q, s3q]
    have HPC2 := Lib.hid (HPC.out.below hbz)
    obtain ⟨BZ, hBZ⟩ : ∃ q, v5.heap.size = q := ⟨_, rfl⟩
    rw [hBZ] at hrz hs5
    have HV5B := Lib.hid hv5b
    generalize v5.alloc (.cells #[.int .i64 0, .int .i64 0, .string ⟨#[]⟩, .slice none 0 0, .slice none 0 0] 25) = v6 at *
    have HS6 := Lib.hid hs5
    have HBZ : Hid (W3.heap.size ≤ BZ ∧ w.heap.size + 1 + 1 + 1 ≤ BZ) := by
     have : W3.heap.size ≤ BZ ∧ w.heap.size + 1 + 1 + 1 ≤ BZ := by have := HV5S.out; have := HSC.out; omega
     exact this
    have HRZ6 := Lib.hid hrz
    clear hbz hrz hv5b hs5 HPC
    have HPC := HPC2
    rw [hBZ]
    refine call_in (i := 4) rfl (by kernel_rfl) (fun K hK => ?_)
    clear hHeld
    go_simp
    have hw := with_raised Bf Bb (raF (d : Int) 0) (cRa RN) u (.slice ua ul uc) (.slice va vl vc) v6 HPC.out (ra_few (d : Int) 0) (by omega) HRA.out (tmP_below (HB.out.trans ((HV5B.out).mono HB.out.size)) HTU.out)
    dsimp only [tv] at hw
    rw [HUU.out.1, HUU.out.2.1, HUU.out.2.2] at hw
    refine hw.mono ?_
    clear hw
    rintro e v7 ⟨hbq, hres⟩
    have hbz7 := hbq.block
    rw [HX.out, if_pos HX2.out] at hres
    obtain ⟨l9, s9, rfl, ht9⟩ := hres
    obtain ⟨⟨xa, xl, xc, rfl⟩, ya, yl, yc, rfl⟩ := tmP_slices ht9
    dsimp only [tv]
    rw [HXX.out.1, HXX.out.2.1, HXX.out.2.2]
    have HT9 := Lib.hid ht9
    have Hv7 := Lib.hid ((HV5B.out).trans (hbq.mono (HV5B.out).size))
    clear hbq ht9
    have HRZ := Lib.hid ((show v7.heap[BZ]? = v6.heap[BZ]? from hbz7 BZ (by rw [HS6.out]; omega)).trans HRZ6.out)
    have HLE : Hid (∀ b, v6.heap.size ≤ b → W3.heap.size ≤ b ∧ BZ < b) := by
     have : ∀ b, v6.heap.size ≤ b → W3.heap.size ≤ b ∧ BZ < b := fun b h => by have := HS6.out; have := HBZ.out; omega
     exact this
    try (go_wp2_with fail)
    refine hK.out _ _ (hk.out _ (Hv7.out)) (fun hHeld => ?_)
    clear hK K
    try simp only [Act.put, s1q, s2q, s3q]
    refine take_in (i := 5) (v := ?_) rfl (by kernel_rfl) (by kernel_rfl) (by kernel_rfl) (fun _ _ _ h => by cases h.1) (by rfl) ?_ hHeld ?_
    rotate_left
    ·intro w hSw
     (try dsimp only at hSw)
     go_simp
     try with_reducible rfl
    try simp only [Act.put, s1q, s2q, s3q]
    refine take_in (i := 6) (v := ?_) rfl (by kernel_rfl) (by kernel_rfl) (by kernel_rfl) (fun _ _ _ h => by cases h.1) (by rfl) ?_ hHeld ?_
    rotate_left
    ·intro w hSw
     (try dsimp only at hSw)
     go_simp
     try with_reducible rfl
    try simp only [Act.put, s1q, s2q, s3q]
    refine take_in (i := 7) (v := ?_) rfl (by kernel_rfl) (by kernel_rfl) (by kernel_rfl) (fun _ _ _ h => by cases h.1) (by rfl) ?_ hHeld ?_
    rotate_left
    ·intro w hSw
     (try dsimp only at hSw)
     go_simp
     try with_reducible rfl
    try simp only [Act.put, s1q, s2q, s3q]
    refine call_in (i := 9) rfl (by kernel_rfl) (fun K hK => ?_)
    clear hHeld
    obtain ⟨n0, n1, n2, n3, n4⟩ := five_cells HRZ.out
    have m0 := frozen0 (p := 0) HRZ.out
    have m1 := frozen0 (p := 1) HRZ.out
    have m2 := frozen0 (p := 2) HRZ.out
    have m3 := frozen0 (p := 3) HRZ.out
    have m4 := frozen0 (p := 4) HRZ.out
    go_simp
    have hb8 := set5_below (n₀ := W3.heap.size) Hv7.out BZ 0 (.int .i64 kx) (.int .i64 nx) (.string mx) (.slice xa xl xc) (.slice ya yl yc) (by have := HBZ.out; omega)
    refine hK.out _ _ (hk.out _ hb8) (fun hHeld => ?_)
    clear hK K
    try simp only [Act.put, s1q, s2q, s3q]
    refine take_in (i := 10) (v := ?_) rfl (by kernel_rfl) (by kernel_rfl) (by kernel_rfl) (fun _ _ _ h => by cases h.1) (by rfl) ?_ hHeld ?_
    rotate_left
    ·intro w hSw
     (try dsimp only at hSw)
     go_simp
     try with_reducible rfl
    try simp only [Act.put, s1q, s2q, s3q]
    refine wpAnyH_done (by kernel_rfl) ?_ _
    have q5 := Hv7.out.size
    have q6 := HBZ.out
    have q7 := (Array.getElem?_eq_some_iff.1 HRZ.out).1
    refine ⟨rfl, BZ, _, xa, xl, xc, ya, yl, yc, ⟨by omega, by rw [set5_sz]; exact q7, (by first | exact hb8 | (rw [← hBZ]; rw [← hBZ] at hb8; exact hb8)), set5_row HRZ.out, ?_⟩, rfl⟩
    exact tmP_move (w := v7) (fun b _ hp => ⟨⟨by have := HLE.out b hp; omega, by have := HLE.out b hp; omega⟩, set5_far' v7 BZ 0 b _ _ _ _ _ (by have := HLE.out b hp; omega)⟩) (by rw [set5_sz]; exact Nat.le_refl _) _ _ _ HT9.out
  ·clear hHeld
   go_simp
   have hbz := (below_lit W3 (.cells #[.int .i64 0, .int .i64 0, .string ⟨#[]⟩, .slice none 0 0, .slice none 0 0] 25)).drew
   have hrz : ((W3.alloc (.cells #[.int .i64 0, .int .i64 0, .string ⟨#[]⟩, .slice none 0 0, .slice none 0 0] 25)).drew).heap[W3.heap.size]? = some (Obj.cells #[.int .i64 0, .int .i64 0, .string ⟨#[]⟩, .slice none 0 0, .slice none 0 0] 25 (0, 0)) := heap_alloc_new W3 (.cells #[.int .i64 0, .int .i64 0, .string ⟨#[]⟩, .slice none 0 0, .slice none 0 0] 25)
   have hs5 : ((W3.alloc (.cells #[.int .i64 0, .int .i64 0, .string ⟨#[]⟩, .slice none 0 0, .slice none 0 0] 25)).drew).heap.size = W3.heap.size + 1 := by
    show (W3.alloc (.cells #[.int .i64 0, .int .i64 0, .string ⟨#[]⟩, .slice none 0 0, .slice none 0 0] 25)).heap.size = _
    simp
   try (go_wp2_with fail)
   refine hK.out _ _ (hk.out _ hbz) (fun hHeld => ?_)
   clear hK K
   try simp only [Act.put, s1q, s2q, s3q]
   obtain ⟨BZ, hBZ⟩ : ∃ q, W3.heap.size = q := ⟨_, rfl⟩
   rw [hBZ] at hrz hs5
   generalize (W3.alloc (.cells #[.int .i64 0, .int .i64 0, .string ⟨#[]⟩, .slice none 0 0, .slice none 0 0] 25)).drew = v4 at *
   have HV4 := Lib.hid hbz
   have HS4 := Lib.hid hs5
   have HRZ4 := Lib.hid hrz
   have HBZ : Hid (W3.heap.size ≤ BZ ∧ w.heap.size + 1 + 1 + 1 ≤ BZ) := by
    have : W3.heap.size ≤ BZ ∧ w.heap.size + 1 + 1 + 1 ≤ BZ := by have := HSC.out; omega
    exact this
   clear hbz hrz hs5
   try rw [hBZ]
   refine call_in (i := 3) rfl (by kernel_rfl) (fun K hK => ?_)
   clear hHeld
   go_simp
   refine (braised_ex RN (d : Int) 0 (by omega) (by omega) _).mono ?_
   rintro e v5 ⟨Bf, Bb, rfl, hpc, hbq⟩
   have HPC := Lib.hid hpc
   have hbz5 := hbq.block
   have hsz5 := hbq.size
   have Hv5 := Lib.hid ((HV4.out).trans (hbq.mono HV4.out.size))
   clear hpc hbq
   have HRZ5 := Lib.hid ((show v5.heap[BZ]? = v4.heap[BZ]? from hbz5 BZ (by rw [HS4.out]; omega)).trans HRZ4.out)
   have hv45 := hsz5
   try (go_wp2_with fail)
   refine hK.out _ _ (hk.out _ (Hv5.out)) (fun hHeld => ?_)
   clear hK K
   try simp only [Act.put, s1q, s2q, s3q]
   refine call_in (i := 4) rfl (by kernel_rfl) (fun K hK => ?_)
   clear hHeld
   go_simp
   have hw := with_raised Bf Bb (raF (d : Int) 0) (cRa RN) u (.slice ua ul uc) (.slice va vl vc) v5 HPC.out (ra_few (d : Int) 0) (by omega) HRA.out (tmP_below (HB.out.trans ((Hv5.out).mono HB.out.size)) HTU.out)
   dsimp only [tv] at hw
   rw [HUU.out.1, HUU.out.2.1, HUU.out.2.2] at hw
   refine hw.mono ?_
   clear hw
   rintro e v7 ⟨hbq, hres⟩
   have hbz7 := hbq.block
   rw [HX.out, if_pos HX2.out] at hres
   obtain ⟨l9, s9, rfl, ht9⟩ := hres
   obtain ⟨⟨xa, xl, xc, rfl⟩, ya, yl, yc, rfl⟩ := tmP_slices ht9
   dsimp only [tv]
   rw [HXX.out.1, HXX.out.2.1, HXX.out.2.2]
   have HT9 := Lib.hid ht9
   have Hv7 := Lib.hid ((Hv5.out).trans (hbq.mono (Hv5.out).size))
   clear hbq ht9
   have HRZ := Lib.hid ((show v7.heap[BZ]? = v5.heap[BZ]? from hbz7 BZ (by have := HS4.out; omega)).trans HRZ5.out)
   have HLE : Hid (∀ b, v5.heap.size ≤ b → W3.heap.size ≤ b ∧ BZ < b) := by
    have : ∀ b, v5.heap.size ≤ b → W3.heap.size ≤ b ∧ BZ < b := fun b h => by have := HS4.out; have := HBZ.out; omega
    exact this
   try (go_wp2_with fail)
   refine hK.out _ _ (hk.out _ (Hv7.out)) (fun hHeld => ?_)
   clear hK K
   try simp only [Act.put, s1q, s2q, s3q]
   refine take_in (i := 5) (v := ?_) rfl (by kernel_rfl) (by kernel_rfl) (by kernel_rfl) (fun _ _ _ h => by cases h.1) (by rfl) ?_ hHeld ?_
   rotate_left
   ·intro w hSw
    (try dsimp only at hSw)
    go_simp
    try with_reducible rfl
   try simp only [Act.put, s1q, s2q, s3q]
   refine take_in (i := 6) (v := ?_) rfl (by kernel_rfl) (by kernel_rfl) (by kernel_rfl) (fun _ _ _ h => by cases h.1) (by rfl) ?_ hHeld ?_
   rotate_left
   ·intro w hSw
    (try dsimp only at hSw)
    go_simp
    try with_reducible rfl
   try simp only [Act.put, s1q, s2q, s3q]
   refine take_in (i := 7) (v := ?_) rfl (by kernel_rfl) (by kernel_rfl) (by kernel_rfl) (fun _ _ _ h => by cases h.1) (by rfl) ?_ hHeld ?_
   rotate_left
   ·intro w hSw
    (try dsimp only at hSw)
    go_simp
    try with_reducible rfl
   try simp only [Act.put, s1q, s2q, s3q]
   refine call_in (i := 9) rfl (by kernel_rfl) (fun K hK => ?_)
   clear hHeld
   obtain ⟨n0, n1, n2, n3, n4⟩ := five_cells HRZ.out
   have m0 := frozen0 (p := 0) HRZ.out
   have m1 := frozen0 (p := 1) HRZ.out
   have m2 := frozen0 (p := 2) HRZ.out
   have m3 := frozen0 (p := 3) HRZ.out
   have m4 := frozen0 (p := 4) HRZ.out
   go_simp
   have hb8 := set5_below (n₀ := W3.heap.size) Hv7.out BZ 0 (.int .i64 kx) (.int .i64 nx) (.string mx) (.slice xa xl xc) (.slice ya yl yc) (by have := HBZ.out; omega)
   refine hK.out _ _ (hk.out _ hb8) (fun hHeld => ?_)
   clear hK K
   try simp only [Act.put, s1q, s2q, s3q]
   refine take_in (i := 10) (v := ?_) rfl (by kernel_rfl) (by kernel_rfl) (by kernel_rfl) (fun _ _ _ h => by cases h.1) (by rfl) ?_ hHeld ?_
   rotate_left
   ·intro w hSw
    (try dsimp only at hSw)
    go_simp
    try with_reducible rfl
   try simp only [Act.put, s1q, s2q, s3q]
   refine wpAnyH_done (by kernel_rfl) ?_ _
   have q5 := Hv7.out.size
   have q6 := HBZ.out
   have q7 := (Array.getElem?_eq_some_iff.1 HRZ.out).1
   refine ⟨rfl, BZ, _, xa, xl, xc, ya, yl, yc, ⟨by omega, by rw [set5_sz]; exact q7, (by first | exact hb8 | (rw [← hBZ]; rw [← hBZ] at hb8; exact hb8)), set5_row HRZ.out, ?_⟩, rfl⟩
   exact tmP_move (w := v7) (fun b _ hp => ⟨⟨by have := HLE.out b hp; omega, by have := HLE.out b hp; omega⟩, set5_far' v7 BZ 0 b _ _ _ _ _ (by have := HLE.out b hp; omega)⟩) (by rw [set5_sz]; exact Nat.le_refl _) _ _ _ HT9.out
 case rest =>
  rintro e a7 W4 ⟨rfl, Bo, fv, xa, xl, xc, ya, yl, yc, ⟨hBo, hBo2, hb4, hro, htx⟩, rfl⟩
  have HTX := Lib.hid htx
  have hz := HZ.out
  have HB4 := Lib.hid (HB.out.trans (hb4.mono HB.out.size))
  have hrz := (hb4.block (w.heap.size + 1 + 1) (by omega)).trans HR2.out
  have hs4 := hb4.size
  clear htx hb4
  obtain ⟨o0, o1, o2, o3, o4⟩ := five_cells hro
  obtain ⟨e0, e1, e2, e3, e4⟩ := five_cells hrz
  have g0 := frozen0 (p := 0) hrz
  have g1 := frozen0 (p := 1) hrz
  have g2 := frozen0 (p := 2) hrz
  have g3 := frozen0 (p := 3) hrz
  have g4 := frozen0 (p := 4) hrz
  go_wp2_with fail
  refine bodyPost_ret (results_cell_row rfl _ _ (w.heap.size + 1 + 1) 25 _ (0, 0) _ rfl (set5_row hrz) Tryz.underlying25 rfl (by rw [hi0, Option.map_some, hz1]; rfl)) rfl ?_
  refine ⟨.slice xa xl xc, .slice ya yl yc, by dsimp only [tv]; rw [HXX.out.1, HXX.out.2.1, HXX.out.2.2], ?_, set5_below HB4.out _ 0 _ _ _ _ _ (by omega)⟩
  exact tmP_move (w := W4) (fun b hlt (hp : w.heap.size + 1 + 1 + 1 ≤ b ∧ b ≠ Bo) => ⟨by omega, set5_far' W4 (w.heap.size + 1 + 1) 0 b _ _ _ _ _ (by omega)⟩) (by rw [set5_sz]; exact Nat.le_refl _) _ _ _ HTX.out
end Bnd
end Go.Proofs.YteomfakbbcpckaaGreatDoor
namespace Go.Proofs.YteomfakbbcpckaaGreatDoor
open Go.RowKit
open Lvl
open Trm
namespace Bnd
theorem with_inst (Bc0 : Nat) (F : Tm → Nat → Tm) (C : Tm → Nat → Prop) (t : Tm) (l s : Value) (w : World) (hpc : PutC w 41 #[.pointer (some ⟨Bc0, 0, none⟩)] F C) (hf : ∀ l d, C l d → tnodes (F l d) ≤ 100000) (hm : tnodes t ≤ 100000) (hall : allT C t 0) (ht : TmP w (fun _ => True) t l s) :
  Calls Tryz.prog 39 #[tv t l s, .func (.func 41) #[] #[.pointer (some ⟨Bc0, 0, none⟩)]] w (WithRet (subT F t 0) w) :=
 with_gen 41 #[.pointer (some ⟨Bc0, 0, none⟩)] F C t l s w (enters_of Tryz.func41 (by kernel_rfl) rfl) hpc hf hm hall ht
end Bnd
end Go.Proofs.YteomfakbbcpckaaGreatDoor
namespace Go.Proofs.YteomfakbbcpckaaGreatDoor
open Go.RowKit
open Lvl
open Trm
namespace Bnd
set_option maxRecDepth 100000 in
set_option maxHeartbeats 2500000 in
theorem in_few {RN : ByteArray → Bool} {args : List Tm} (ha : areB RN args = true) (l : Tm) (d : Nat) (h : cRa RN l d) : tnodes (instF args l d) ≤ 100000 := by
 obtain ⟨K, _, hok, k, n, m, ls, rfl⟩ := h
 have hl := leaf_few hok
 rw [instF]
 split
 ·split
  ·rename_i h1 h2
   have hlen : args.length - 1 - (n - d).toNat < args.length := by omega
   rw [List.getD_eq_getElem?_getD, List.getElem?_eq_getElem hlen, Option.getD_some]
   have hr := List.all_eq_true.1 ha _ (List.getElem_mem hlen)
   rw [right_nodes (d : Int) 0 hr]
   have := (rightT_ok hr).2.1
   omega
  ·rw [tnodes, nodesL, tnodesL]; omega
 ·omega
set_option maxRecDepth 100000 in
set_option maxHeartbeats 2500000 in
theorem put_inst (RN : ByteArray → Bool) (w0 : World) (Bc : Nat) (A : Option Addr) (len cap : Nat) (args : List Tm) (hc : w0.cell? ⟨Bc, 0, none⟩ = some (.slice A len cap)) (hts : TsP w0 (fun _ => True) A 0 args) (hlen : args.length = len) (hl47 : len ≤ 140737488355328) (ha : areB RN args = true) :
  PutC w0 41 #[.pointer (some ⟨Bc, 0, none⟩)] (instF args) (cRa RN) := by
 intro w1 k n m ls l sa sc d hbw hl hd hC
 obtain ⟨i0, hi0, hz0, hz1, hz2⟩ := info_parts infoTm
 obtain ⟨K, hK, hok, _⟩ := hC
 have HL := Lib.hid hl
 obtain ⟨la, ll, lc, rfl⟩ := lvP_slice hl
 have hn1 : k = 1 → 0 ≤ n ∧ n ≤ 4503599627370496 ∧ m = ⟨#[]⟩ ∧ ls = [] := fun e => by
  rcases ok_leaf hok with ⟨_, h0, h1, h2, h3⟩ | ⟨h0, _⟩ | ⟨h0, _⟩
  ·exact ⟨by omega, by omega, h2, h3⟩
  ·omega
  ·omega
 have HOK := Lib.hid hok
 have HN1 := Lib.hid hn1
 have hc1 := (hbw.cell (p := ⟨Bc, 0, none⟩) (World.block_lt_of_cell? w0 ⟨Bc, 0, none⟩ hc)).trans hc
 have HC := Lib.hid (And.intro hc1 (World.block_lt_of_cell? w1 ⟨Bc, 0, none⟩ hc1))
 have HTS := Lib.hid (tsP_below hbw hts)
 have HLN := Lib.hid hlen
 have HAA := Lib.hid ha
 clear hl hok hn1 hc hc1 hbw hts hlen ha
 show Calls Tryz.prog 41 #[.agg #[.int .i64 k, .int .i64 n, .string m, .slice la ll lc, .slice sa 0 sc, .int .i64 d], .pointer (some ⟨Bc, 0, none⟩)] w1 _
 obtain ⟨w, rfl⟩ : ∃ w, w = w1 := ⟨_, rfl⟩
 go_enter Tryz.func41, Tryz.ntmps41
 go_wp2_with fail
 have z1 : (w.alloc (.cells #[.int .i64 k, .int .i64 n, .string m, .slice la ll lc, .slice sa 0 sc, .int .i64 d] 62)).heap.size = w.heap.size + 1 := by simp
 have z2 : ((w.alloc (.cells #[.int .i64 k, .int .i64 n, .string m, .slice la ll lc, .slice sa 0 sc, .int .i64 d] 62)).alloc (.cells #[.int .i64 0, .int .i64 0, .string ⟨#[]⟩, .slice none 0 0, .slice none 0 0] 25)).heap.size = w.heap.size + 1 + 1 := by simp
 have r0 : (w.alloc (.cells #[.int .i64 k, .int .i64 n, .string m, .slice la ll lc, .slice sa 0 sc, .int .i64 d] 62)).heap[w.heap.size]? = some (Obj.cells #[.int .i64 k, .int .i64 n, .string m, .slice la ll lc, .slice sa 0 sc, .int .i64 d] 62 (0, 0)) := by
  have := heap_alloc_new w (.cells #[.int .i64 k, .int .i64 n, .string m, .slice la ll lc, .slice sa 0 sc, .int .i64 d] 62)
  exact this
 have r1 : ((w.alloc (.cells #[.int .i64 k, .int .i64 n, .string m, .slice la ll lc, .slice sa 0 sc, .int .i64 d] 62)).alloc (.cells #[.int .i64 0, .int .i64 0, .string ⟨#[]⟩, .slice none 0 0, .slice none 0 0] 25)).heap[w.heap.size + 1]? = some (Obj.cells #[.int .i64 0, .int .i64 0, .string ⟨#[]⟩, .slice none 0 0, .slice none 0 0] 25 (0, 0)) := by
  have := heap_alloc_new (w.alloc (.cells #[.int .i64 k, .int .i64 n, .string m, .slice la ll lc, .slice sa 0 sc, .int .i64 d] 62)) (.cells #[.int .i64 0, .int .i64 0, .string ⟨#[]⟩, .slice none 0 0, .slice none 0 0] 25)
  rwa [z1] at this
 have HB := Lib.hid ((below_lit w (.cells #[.int .i64 k, .int .i64 n, .string m, .slice la ll lc, .slice sa 0 sc, .int .i64 d] 62)).trans ((below_lit (w.alloc (.cells #[.int .i64 k, .int .i64 n, .string m, .slice la ll lc, .slice sa 0 sc, .int .i64 d] 62)) (.cells #[.int .i64 0, .int .i64 0, .string ⟨#[]⟩, .slice none 0 0, .slice none 0 0] 25)).mono (below_lit w (.cells #[.int .i64 k, .int .i64 n, .string m, .slice la ll lc, .slice sa 0 sc, .int .i64 d] 62)).size))
 have HRL := Lib.hid ((heap_alloc_old (w.alloc (.cells #[.int .i64 k, .int .i64 n, .string m, .slice la ll lc, .slice sa 0 sc, .int .i64 d] 62)) (.cells #[.int .i64 0, .int .i64 0, .string ⟨#[]⟩, .slice none 0 0, .slice none 0 0] 25) (by rw [z1]; omega)).trans (r0))
 have HRB := Lib.hid (r1)
 clear r0 r1
 generalize ((w.alloc (.cells #[.int .i64 k, .int .i64 n, .string m, .slice la ll lc, .slice sa 0 sc, .int .i64 d] 62)).alloc (.cells #[.int .i64 0, .int .i64 0, .string ⟨#[]⟩, .slice none 0 0, .slice none 0 0] 25)) = W at *
 have HZ := Lib.hid z2
 clear z1 z2
 have hz := HZ.out
 have HBW := Lib.hid HB.out
 obtain ⟨b, hb⟩ : ∃ b, decide (k = 1 ∧ (d : Int) ≤ n) = b := ⟨_, rfl⟩
 obtain ⟨r, hr⟩ : ∃ r, (if b = true then n - d else 0) = r := ⟨_, rfl⟩
 have HLO := Lib.hid (lloose_is k n m la ll lc sa 0 sc d W (fun e => ⟨by have := (HN1.out e).1; omega, (HN1.out e).2.1⟩) hd b hb r hr)
 have HBR := Lib.hid (And.intro hb hr)
 clear hb hr
 refine HLO.out.mono ?_
 rintro e v2 ⟨rfl, hb2⟩
 have HB2 := Lib.hid hb2
 have HBV := Lib.hid (HB.out.trans (hb2.mono HB.out.size))
 have hrl := (hb2.block w.heap.size (by omega)).trans HRL.out
 have hrb := (hb2.block (w.heap.size + 1) (by omega)).trans HRB.out
 have HRL2 := Lib.hid hrl
 obtain ⟨a0, a1, a2, a3, a4, a5⟩ := six_cells hrl
 have hf2 := (HBV.out.cell (p := ⟨Bc, 0, none⟩) HC.out.2).trans HC.out.1
 clear HRB hb2
 have HRB := Lib.hid hrb
 clear hrl hrb HLO
 cases b with
 | false =>
  have hF : Hid (instF args (.mk k n m ls []) d = .mk k n m ls []) := by
   have : instF args (.mk k n m ls []) d = .mk k n m ls [] := by
    rw [instF, if_neg]
    intro h
    have := HBR.out.1
    simp [h.1, h.2] at this
   exact this
  go_wp2_with fail
  refine (lown_is RN k n m ls _ sa 0 sc d K v2 (lvP_move (w := w) (fun b hlt _ => ⟨trivial, HBV.out.block b hlt⟩) HBV.out.size _ _ HL.out) HOK.out).mono ?_
  rintro e w9 ⟨l9, s9, rfl, ht9, hb9⟩
  obtain ⟨⟨ua, ul, uc, rfl⟩, va, vl, vc, rfl⟩ := tmP_slices ht9
  have HT9 := Lib.hid ht9
  have hrz := (hb9.block (w.heap.size + 1) (Array.getElem?_eq_some_iff.1 HRB.out).1).trans HRB.out
  have HB9 := Lib.hid (HBV.out.trans (hb9.mono HBV.out.size))
  have HS9 := Lib.hid (Array.getElem?_eq_some_iff.1 HRB.out).1
  clear ht9 hb9
  clear a0 a1 a2 a3 a4 a5 hf2
  dsimp only [tv, tkOf, tnOf, tmOf]
  obtain ⟨e0, e1, e2, e3, e4⟩ := five_cells hrz
  have g0 := frozen0 (p := 0) hrz
  have g1 := frozen0 (p := 1) hrz
  have g2 := frozen0 (p := 2) hrz
  have g3 := frozen0 (p := 3) hrz
  have g4 := frozen0 (p := 4) hrz
  go_wp2_with fail
  refine bodyPost_ret (results_cell_row rfl _ _ (w.heap.size + 1) 25 _ (0, 0) _ rfl (set5_row hrz) Tryz.underlying25 rfl (by rw [hi0, Option.map_some, hz1]; rfl)) rfl ?_
  rw [hF.out]
  refine ⟨_, _, rfl, tmP_move (w := w9) (fun b hlt (hp : v2.heap.size ≤ b) => ⟨by have := HS9.out; omega, set5_far' w9 (w.heap.size + 1) 0 b _ _ _ _ _ (by have := HS9.out; omega)⟩) (Nat.le_of_eq (set5_sz w9 (w.heap.size + 1) 0 _ _ _ _ _).symm) _ _ _ HT9.out, set5_below HB9.out _ 0 _ _ _ _ _ (by omega)⟩
 | true =>
  have hkn : k = 1 ∧ (d : Int) ≤ n := of_decide_eq_true HBR.out.1
  have hrr : n - d = r := by have := HBR.out.2; rw [if_pos rfl] at this; exact this
  have hnn := HN1.out hkn.1
  have HKN := Lib.hid hkn
  have HRR := Lib.hid hrr
  have hlen := HLN.out
  by_cases hfr : r < (len : Int)
  ·have c1 : decide (r < (len : Int)) = true := by simp; omega
   obtain ⟨i, hi⟩ : ∃ i : Nat, len - 1 - r.toNat = i := ⟨_, rfl⟩
   have hilt : i < args.length := by omega
   have hie : (len : Int) - 1 - r = (i : Int) := by omega
   obtain ⟨bq, o, l1, s1, eA, hbs, _, hc0, hc1, hc2, hc3, hc4, htm⟩ := tsP_get HTS.out i hilt
   subst eA
   obtain ⟨⟨xa, xl, xc, rfl⟩, ya, yl, yc, rfl⟩ := tmP_slices htm
   obtain ⟨ai, hai⟩ : ∃ q, args[i] = q := ⟨_, rfl⟩
   have hF : Hid (instF args (.mk k n m ls []) d = subT (raF (d : Int) 0) ai 0) := by
    have : instF args (.mk k n m ls []) d = subT (raF (d : Int) 0) ai 0 := by
     rw [instF, if_pos hkn, if_pos (by omega), show args.length - 1 - (n - (d : Int)).toNat = i by omega, List.getD_eq_getElem?_getD, List.getElem?_eq_getElem hilt, Option.getD_some, hai]
    exact this
   rw [hai] at hc0 hc1 hc2 htm
   have HAR : Hid (rightT RN 4 ai 1125899906842624 = true) := by
    have : rightT RN 4 ai 1125899906842624 = true := by rw [← hai]; exact List.all_eq_true.1 HAA.out _ (List.getElem_mem hilt)
    exact this
   have HAT := Lib.hid htm
   obtain ⟨ka, hka⟩ : ∃ q, tkOf ai = q := ⟨_, rfl⟩
   obtain ⟨na, hna⟩ : ∃ q, tnOf ai = q := ⟨_, rfl⟩
   obtain ⟨ma, hma⟩ : ∃ q, tmOf ai = q := ⟨_, rfl⟩
   rw [hka] at hc0
   rw [hna] at hc1
   rw [hma] at hc2
   have HAK := Lib.hid (And.intro hka (And.intro hna hma))
   have hw1 : IntKind.i64.wrap ((len : Int) - 1) = (len : Int) - 1 := IntWalk.i64_in _ ⟨by omega, by omega⟩
   have hw2 : IntKind.i64.wrap ((len : Int) - 1 - r) = (i : Int) := (IntWalk.i64_in _ ⟨by omega, by omega⟩).trans hie
   have hw3 : IntKind.i64.wrap (i : Int) = (i : Int) := IntWalk.i64_in _ ⟨by omega, by omega⟩
   have q1 : (0 : Int) ≤ (i : Int) := by omega
   have q2 : (i : Int) < (len : Int) := by omega
   have hkS : Hid (∀ W', Below v2.heap.size v2 W' → W'.cell? ⟨w.heap.size, 0, none⟩ = some (.int .i64 k) ∧ W'.cell? ⟨w.heap.size, 1, none⟩ = some (.int .i64 n) ∧ W'.cell? ⟨w.heap.size, 2, none⟩ = some (.string m) ∧ W'.cell? ⟨w.heap.size, 3, none⟩ = some (.slice la ll lc) ∧ W'.cell? ⟨w.heap.size, 4, none⟩ = some (.slice sa 0 sc) ∧ W'.cell? ⟨w.heap.size, 5, none⟩ = some (.int .i64 d) ∧ W'.cell? ⟨Bc, 0, none⟩ = some (.slice (some ⟨bq, o, none⟩) len cap) ∧ W'.cell? ⟨bq, o + i * 5, none⟩ = some (.int .i64 ka) ∧ W'.cell? ⟨bq, o + i * 5 + 1, none⟩ = some (.int .i64 na) ∧ W'.cell? ⟨bq, o + i * 5 + 2, none⟩ = some (.string ma) ∧ W'.cell? ⟨bq, o + i * 5 + 3, none⟩ = some (.slice xa xl xc) ∧ W'.cell? ⟨bq, o + i * 5 + 4, none⟩ = some (.slice ya yl yc)) := fun W' h => by
    obtain ⟨y0, y1, y2, y3, y4, y5⟩ := six_cells ((h.block w.heap.size (Array.getElem?_eq_some_iff.1 HRL2.out).1).trans HRL2.out)
    have hcc := HBV.out.trans (h.mono HBV.out.size)
    exact ⟨y0, y1, y2, y3, y4, y5, (hcc.cell (p := ⟨Bc, 0, none⟩) HC.out.2).trans HC.out.1, (hcc.cell (p := ⟨bq, _, none⟩) hbs).trans hc0, (hcc.cell (p := ⟨bq, _, none⟩) hbs).trans hc1, (hcc.cell (p := ⟨bq, _, none⟩) hbs).trans hc2, (hcc.cell (p := ⟨bq, _, none⟩) hbs).trans hc3, (hcc.cell (p := ⟨bq, _, none⟩) hbs).trans hc4⟩
   have hBc := HC.out.2
   have hkT : Hid (∀ {w9 W' : World}, (∀ b, b ≠ w.heap.size + 1 → W'.heap[b]? = w9.heap[b]?) → (w9.cell? ⟨w.heap.size, 0, none⟩ = some (.int .i64 k) ∧ w9.cell? ⟨w.heap.size, 1, none⟩ = some (.int .i64 n) ∧ w9.cell? ⟨w.heap.size, 2, none⟩ = some (.string m) ∧ w9.cell? ⟨w.heap.size, 3, none⟩ = some (.slice la ll lc) ∧ w9.cell? ⟨w.heap.size, 4, none⟩ = some (.slice sa 0 sc) ∧ w9.cell? ⟨w.heap.size, 5, none⟩ = some (.int .i64 d) ∧ w9.cell? ⟨Bc, 0, none⟩ = some (.slice (some ⟨bq, o, none⟩) len cap) ∧ w9.cell? ⟨bq, o + i * 5, none⟩ = some (.int .i64 ka) ∧ w9.cell? ⟨bq, o + i * 5 + 1, none⟩ = some (.int .i64 na) ∧ w9.cell? ⟨bq, o + i * 5 + 2, none⟩ = some (.string ma) ∧ w9.cell? ⟨bq, o + i * 5 + 3, none⟩ = some (.slice xa xl xc) ∧ w9.cell? ⟨bq, o + i * 5 + 4, none⟩ = some (.slice ya yl yc)) → W'.cell? ⟨w.heap.size, 0, none⟩ = some (.int .i64 k) ∧ W'.cell? ⟨w.heap.size, 1, none⟩ = some (.int .i64 n) ∧ W'.cell? ⟨w.heap.size, 2, none⟩ = some (.string m) ∧ W'.cell? ⟨w.heap.size, 3, none⟩ = some (.slice la ll lc) ∧ W'.cell? ⟨w.heap.size, 4, none⟩ = some (.slice sa 0 sc) ∧ W'.cell? ⟨w.heap.size, 5, none⟩ = some (.int .i64 d) ∧ W'.cell? ⟨Bc, 0, none⟩ = some (.slice (some ⟨bq, o, none⟩) len cap) ∧ W'.cell? ⟨bq, o + i * 5, none⟩ = some (.int .i64 ka) ∧ W'.cell? ⟨bq, o + i * 5 + 1, none⟩ = some (.int .i64 na) ∧ W'.cell? ⟨bq, o + i * 5 + 2, none⟩ = some (.string ma) ∧ W'.cell? ⟨bq, o + i * 5 + 3, none⟩ = some (.slice xa xl xc) ∧ W'.cell? ⟨bq, o + i * 5 + 4, none⟩ = some (.slice ya yl yc)) := fun {w9 W'} h hq => by
    have hc9 : ∀ b p, b ≠ w.heap.size + 1 → W'.cell? ⟨b, p, none⟩ = w9.cell? ⟨b, p, none⟩ := fun b p hb => cell_heap (h b hb)
    have n0 : w.heap.size ≠ w.heap.size + 1 := by omega
    have n1 : Bc ≠ w.heap.size + 1 := by omega
    have n2 : bq ≠ w.heap.size + 1 := by omega
    obtain ⟨y0, y1, y2, y3, y4, y5, y6, y7, y8, y9, y10, y11⟩ := hq
    exact ⟨(hc9 _ _ n0).trans y0, (hc9 _ _ n0).trans y1, (hc9 _ _ n0).trans y2, (hc9 _ _ n0).trans y3, (hc9 _ _ n0).trans y4, (hc9 _ _ n0).trans y5, (hc9 _ _ n1).trans y6, (hc9 _ _ n2).trans y7, (hc9 _ _ n2).trans y8, (hc9 _ _ n2).trans y9, (hc9 _ _ n2).trans y10, (hc9 _ _ n2).trans y11⟩
   clear hkn hrr hnn htm hc0 hc1 hc2 hc3 hc4 hka hna hma hai hi a0 a1 a2 a3 a4 a5
   go_upto_region 5 with fail
   refine wp_region_held_drew (S := fun W' => W'.cell? ⟨w.heap.size, 0, none⟩ = some (.int .i64 k) ∧ W'.cell? ⟨w.heap.size, 1, none⟩ = some (.int .i64 n) ∧ W'.cell? ⟨w.heap.size, 2, none⟩ = some (.string m) ∧ W'.cell? ⟨w.heap.size, 3, none⟩ = some (.slice la ll lc) ∧ W'.cell? ⟨w.heap.size, 4, none⟩ = some (.slice sa 0 sc) ∧ W'.cell? ⟨w.heap.size, 5, none⟩ = some (.int .i64 d) ∧ W'.cell? ⟨Bc, 0, none⟩ = some (.slice (some ⟨bq, o, none⟩) len cap) ∧ W'.cell? ⟨bq, o + i * 5, none⟩ = some (.int .i64 ka) ∧ W'.cell? ⟨bq, o + i * 5 + 1, none⟩ = some (.int .i64 na) ∧ W'.cell? ⟨bq, o + i * 5 + 2, none⟩ = some (.string ma) ∧ W'.cell? ⟨bq, o + i * 5 + 3, none⟩ = some (.slice xa xl xc) ∧ W'.cell? ⟨bq, o + i * 5 + 4, none⟩ = some (.slice ya yl yc)) (by kernel_rfl) (hkS.out _ ((Below.refl _ _).drew)) (fun hHeld => ?_)
   refine take_in (i := 0) (v := ?_) rfl (by kernel_rfl) (by kernel_rfl) (by kernel_rfl) (fun _ _ _ h => h) (by rfl) ?_ hHeld ?_
   rotate_left
   ·intro w hSw
    (try dsimp only at hSw)
    go_simp
    try with_reducible rfl
   try simp only [Act.put, s1q, s2q, s3q]
   refine take_in (i := 1) (v := ?_) rfl (by kernel_rfl) (by kernel_rfl) (by kernel_rfl) (fun _ _ _ h => h) (by rfl) ?_ hHeld ?_
   rotate_left
   ·intro w hSw
    (try dsimp only at hSw)
    go_simp
    try with_reducible rfl
   try simp only [Act.put, s1q, s2q, s3q]
   refine take_in (i := 2) (v := ?_) rfl (by kernel_rfl) (by kernel_rfl) (by kernel_rfl) (fun _ _ _ h => h) (by rfl) ?_ hHeld ?_
   rotate_left
   ·intro w hSw
    (try dsimp only at hSw)
    go_simp
    try with_reducible rfl
   try simp only [Act.put, s1q, s2q, s3q]
   refine take_in (i := 3) (v := ?_) rfl (by kernel_rfl) (by kernel_rfl) (by kernel_rfl) (fun _ _ _ h => h) (by rfl) ?_ hHeld ?_
   rotate_left
   ·intro w hSw
    (try dsimp only at hSw)
    go_simp
    try with_reducible rfl
   try simp only [Act.put, s1q, s2q, s3q]
   refine take_in (i := 4) (v := ?_) rfl (by kernel_rfl) (by kernel_rfl) (by kernel_rfl) (fun _ _ _ h => h) (by rfl) ?_ hHeld ?_
   rotate_left
   ·intro w hSw
    (try dsimp only at hSw)
    go_simp
    try with_reducible rfl
   try simp only [Act.put, s1q, s2q, s3q]
   refine take_in (i := 5) (v := ?_) rfl (by kernel_rfl) (by kernel_rfl) (by kernel_rfl) (fun _ _ _ h => h) (by rfl) ?_ hHeld ?_
   rotate_left
   ·intro w hSw
    (try dsimp only at hSw)
    go_simp
    try with_reducible rfl
   try simp only [Act.put, s1q, s2q, s3q]
   refine take_in (i := 6) (v := ?_) rfl (by kernel_rfl) (by kernel_rfl) (by kernel_rfl) (fun _ _ _ h => h) (by rfl) ?_ hHeld ?_
   rotate_left
   ·intro w hSw
    (try dsimp only at hSw)
    go_simp
    try with_reducible rfl
   try simp only [Act.put, s1q, s2q, s3q]
   refine take_in (i := 7) (v := ?_) rfl (by kernel_rfl) (by kernel_rfl) (by kernel_rfl) (fun _ _ _ h => h) (by rfl) ?_ hHeld ?_
   rotate_left
   ·intro w hSw
    (try dsimp only at hSw)
    go_simp
    try with_reducible rfl
   try simp only [Act.put, s1q, s2q, s3q]
   refine take_in (i := 8) (v := ?_) rfl (by kernel_rfl) (by kernel_rfl) (by kernel_rfl) (fun _ _ _ h => h) (by rfl) ?_ hHeld ?_
   rotate_left
   ·intro w hSw
    (try dsimp only at hSw)
    go_simp
    try with_reducible rfl
   try simp only [Act.put, s1q, s2q, s3q]
   refine call_in (i := 9) rfl (by kernel_rfl) (fun K hK => ?_)
   clear hHeld
   go_simp
   have hw := place_is RN k n m la ll lc sa 0 sc d ai (.slice xa xl xc) (.slice ya yl yc) v2.drew (tmP_below ((HB2.out.trans ((Below.refl v2.heap.size v2).drew.mono HB2.out.size))) (tmP_below HBW.out HAT.out)) HAR.out hd
   dsimp only [tv] at hw
   rw [HAK.out.1, HAK.out.2.1, HAK.out.2.2] at hw
   refine hw.mono ?_
   clear hw
   rintro e w9 ⟨l9, s9, rfl, ht9, hb9⟩
   obtain ⟨⟨ua, ul, uc, rfl⟩, va, vl, vc, rfl⟩ := tmP_slices ht9
   obtain ⟨ku, hku⟩ : ∃ q, tkOf (subT (raF (d : Int) 0) ai 0) = q := ⟨_, rfl⟩
   obtain ⟨nu, hnu⟩ : ∃ q, tnOf (subT (raF (d : Int) 0) ai 0) = q := ⟨_, rfl⟩
   obtain ⟨mu, hmu⟩ : ∃ q, tmOf (subT (raF (d : Int) 0) ai 0) = q := ⟨_, rfl⟩
   dsimp only [tv]
   rw [hku, hnu, hmu]
   have HUU := Lib.hid (And.intro hku (And.intro hnu hmu))
   have HT9 := Lib.hid ht9
   have HV9 := Lib.hid ((Below.refl v2.heap.size v2).drew.trans hb9)
   have hrz := (HV9.out.block (w.heap.size + 1) (Array.getElem?_eq_some_iff.1 HRB.out).1).trans HRB.out
   have HS9 := Lib.hid (Array.getElem?_eq_some_iff.1 HRB.out).1
   clear ht9 hb9 hku hnu hmu
   obtain ⟨e0, e1, e2, e3, e4⟩ := five_cells hrz
   have g0 := frozen0 (p := 0) hrz
   have g1 := frozen0 (p := 1) hrz
   have g2 := frozen0 (p := 2) hrz
   have g3 := frozen0 (p := 3) hrz
   have g4 := frozen0 (p := 4) hrz
   try (go_wp2_with fail)
   refine hK.out _ _ (hkS.out _ HV9.out) (fun hHeld => ?_)
   clear hK K
   try simp only [Act.put, s1q, s2q, s3q]
   refine call_in (i := 10) rfl (by kernel_rfl) (fun K hK => ?_)
   clear hHeld
   go_simp
   try (go_wp2_with fail)
   refine hK.out _ _ ((by
    have hq := hkS.out w9 HV9.out
    exact hkT.out (fun b hb => (set5_far' w9 (w.heap.size + 1) 0 b _ _ _ _ _ hb)) hq)) (fun hHeld => ?_)
   clear hK K
   try simp only [Act.put, s1q, s2q, s3q]
   refine wpAnyH_done (by kernel_rfl) ?_ _
   go_wp2_with fail
   refine bodyPost_ret (results_cell_row rfl _ _ (w.heap.size + 1) 25 _ (0, 0) _ rfl (set5_row hrz) Tryz.underlying25 rfl (by rw [hi0, Option.map_some, hz1]; rfl)) rfl ?_
   rw [hF.out]
   have HB9 := Lib.hid (HBV.out.trans (HV9.out.mono HBV.out.size))
   refine ⟨.slice ua ul uc, .slice va vl vc, by dsimp only [tv]; rw [HUU.out.1, HUU.out.2.1, HUU.out.2.2], tmP_move (w := w9) (fun b hlt (hp : v2.heap.size ≤ b) => ⟨by have := HS9.out; omega, set5_far' w9 (w.heap.size + 1) 0 b _ _ _ _ _ (by have := HS9.out; omega)⟩) (Nat.le_of_eq (set5_sz w9 (w.heap.size + 1) 0 _ _ _ _ _).symm) _ _ _ HT9.out, set5_below HB9.out _ 0 _ _ _ _ _ (by omega)⟩
  ·have c1 : decide (r < (len : Int)) = false := by simp; omega
   have hF : Hid (instF args (.mk k n m ls []) d = tvr (n - len)) := by
    have : instF args (.mk k n m ls []) d = tvr (n - len) := by rw [instF, if_pos hkn, if_neg (by omega), hlen]
    exact this
   have hw1 : IntKind.i64.wrap (n - (len : Int)) = n - (len : Int) := IntWalk.i64_in _ ⟨by omega, by omega⟩
   clear hkn hrr hnn
   go_wp2_with fail
   refine (var_is (n - (len : Int)) v2).mono ?_
   rintro e w9 ⟨l9, s9, rfl, ht9, hb9⟩
   obtain ⟨⟨ua, ul, uc, rfl⟩, va, vl, vc, rfl⟩ := tmP_slices ht9
   have HT9 := Lib.hid ht9
   have hrz := (hb9.block (w.heap.size + 1) (Array.getElem?_eq_some_iff.1 HRB.out).1).trans HRB.out
   have HB9 := Lib.hid (HBV.out.trans (hb9.mono HBV.out.size))
   have HS9 := Lib.hid (Array.getElem?_eq_some_iff.1 HRB.out).1
   clear ht9 hb9
   clear a0 a1 a2 a3 a4 a5 hf2
   dsimp only [tv, tkOf, tnOf, tmOf]
   obtain ⟨e0, e1, e2, e3, e4⟩ := five_cells hrz
   have g0 := frozen0 (p := 0) hrz
   have g1 := frozen0 (p := 1) hrz
   have g2 := frozen0 (p := 2) hrz
   have g3 := frozen0 (p := 3) hrz
   have g4 := frozen0 (p := 4) hrz
   go_wp2_with fail
   refine bodyPost_ret (results_cell_row rfl _ _ (w.heap.size + 1) 25 _ (0, 0) _ rfl (set5_row hrz) Tryz.underlying25 rfl (by rw [hi0, Option.map_some, hz1]; rfl)) rfl ?_
   rw [hF.out]
   refine ⟨_, _, rfl, tmP_move (w := w9) (fun b hlt (hp : v2.heap.size ≤ b) => ⟨by have := HS9.out; omega, set5_far' w9 (w.heap.size + 1) 0 b _ _ _ _ _ (by have := HS9.out; omega)⟩) (Nat.le_of_eq (set5_sz w9 (w.heap.size + 1) 0 _ _ _ _ _).symm) _ _ _ HT9.out, set5_below HB9.out _ 0 _ _ _ _ _ (by omega)⟩
end Bnd
end Go.Proofs.YteomfakbbcpckaaGreatDoor
namespace Go.Proofs.YteomfakbbcpckaaGreatDoor
open Go.RowKit
open Lvl
open Trm
namespace Bnd
set_option maxRecDepth 100000 in
set_option maxHeartbeats 2000000 in
theorem lift_is (RN : ByteArray → Bool) (by' fr : Int) (t : Tm) (l s : Value) (w : World) (ht : TmP w (fun _ => True) t l s) (hnm : nmOk t) (CN : NameC w RN) (b : Bool) (hb : (!farB by' && (!farB fr && rightT RN 4 t 1125899906842624)) = b) :
  Calls Tryz.prog 13 #[tv t l s, .int .i64 by', .int .i64 fr] w (BRet w b (subT (raF by' fr) t 0)) := by
 obtain ⟨i0, hi0, hz0, hz1, hz2⟩ := info_parts infoTm
 have HNK := Lib.hid hnm
 have HCN := Lib.hid CN
 have HBB := Lib.hid hb
 clear hnm CN hb
 obtain ⟨X, hX⟩ : ∃ X, subT (raF by' fr) t 0 = X := ⟨_, rfl⟩
 have HX := Lib.hid hX
 rw [hX]
 obtain ⟨kx, hkx⟩ : ∃ q, tkOf X = q := ⟨_, rfl⟩
 obtain ⟨nx, hnx⟩ : ∃ q, tnOf X = q := ⟨_, rfl⟩
 obtain ⟨mx, hmx⟩ : ∃ q, tmOf X = q := ⟨_, rfl⟩
 have HXX := Lib.hid (And.intro hkx (And.intro hnx hmx))
 clear hX hkx hnx hmx
 obtain ⟨⟨la, ll, lc, rfl⟩, sa, sl, sc, rfl⟩ := tmP_slices ht
 have HTT := Lib.hid ht
 obtain ⟨k, hk⟩ : ∃ k, tkOf t = k := ⟨_, rfl⟩
 obtain ⟨n, hn⟩ : ∃ n, tnOf t = n := ⟨_, rfl⟩
 obtain ⟨m, hmm⟩ : ∃ m, tmOf t = m := ⟨_, rfl⟩
 dsimp only [tv]
 rw [hk, hn, hmm]
 have HK := Lib.hid hk
 have HNN := Lib.hid hn
 have HMM := Lib.hid hmm
 clear hk hn hmm ht
 go_enter Tryz.func13, Tryz.ntmps13
 go_upto_region 1 with fail
 have z1 : (w.alloc (.cells #[.int .i64 k, .int .i64 n, .string m, .slice la ll lc, .slice sa sl sc] 25)).heap.size = w.heap.size + 1 := by simp
 have z2 : ((w.alloc (.cells #[.int .i64 k, .int .i64 n, .string m, .slice la ll lc, .slice sa sl sc] 25)).alloc (.cells #[.int .i64 0, .int .i64 0, .string ⟨#[]⟩, .slice none 0 0, .slice none 0 0] 25)).heap.size = w.heap.size + 1 + 1 := by simp
 have r0 : (w.alloc (.cells #[.int .i64 k, .int .i64 n, .string m, .slice la ll lc, .slice sa sl sc] 25)).heap[w.heap.size]? = some (Obj.cells #[.int .i64 k, .int .i64 n, .string m, .slice la ll lc, .slice sa sl sc] 25 (0, 0)) := by
  have := heap_alloc_new w (.cells #[.int .i64 k, .int .i64 n, .string m, .slice la ll lc, .slice sa sl sc] 25)
  exact this
 have r1 : ((w.alloc (.cells #[.int .i64 k, .int .i64 n, .string m, .slice la ll lc, .slice sa sl sc] 25)).alloc (.cells #[.int .i64 0, .int .i64 0, .string ⟨#[]⟩, .slice none 0 0, .slice none 0 0] 25)).heap[w.heap.size + 1]? = some (Obj.cells #[.int .i64 0, .int .i64 0, .string ⟨#[]⟩, .slice none 0 0, .slice none 0 0] 25 (0, 0)) := by
  have := heap_alloc_new (w.alloc (.cells #[.int .i64 k, .int .i64 n, .string m, .slice la ll lc, .slice sa sl sc] 25)) (.cells #[.int .i64 0, .int .i64 0, .string ⟨#[]⟩, .slice none 0 0, .slice none 0 0] 25)
  rwa [z1] at this
 have HB := Lib.hid ((below_lit w (.cells #[.int .i64 k, .int .i64 n, .string m, .slice la ll lc, .slice sa sl sc] 25)).trans ((below_lit (w.alloc (.cells #[.int .i64 k, .int .i64 n, .string m, .slice la ll lc, .slice sa sl sc] 25)) (.cells #[.int .i64 0, .int .i64 0, .string ⟨#[]⟩, .slice none 0 0, .slice none 0 0] 25)).mono (below_lit w (.cells #[.int .i64 k, .int .i64 n, .string m, .slice la ll lc, .slice sa sl sc] 25)).size))
 have HR0 := Lib.hid ((heap_alloc_old (w.alloc (.cells #[.int .i64 k, .int .i64 n, .string m, .slice la ll lc, .slice sa sl sc] 25)) (.cells #[.int .i64 0, .int .i64 0, .string ⟨#[]⟩, .slice none 0 0, .slice none 0 0] 25) (by rw [z1]; omega)).trans (r0))
 have HR1 := Lib.hid (r1)
 clear r0 r1
 generalize ((w.alloc (.cells #[.int .i64 k, .int .i64 n, .string m, .slice la ll lc, .slice sa sl sc] 25)).alloc (.cells #[.int .i64 0, .int .i64 0, .string ⟨#[]⟩, .slice none 0 0, .slice none 0 0] 25)) = W at *
 have HZ := Lib.hid z2
 clear z1 z2
 have hz := HZ.out
 have HKR : Hid (∀ W', Below W.heap.size W W' → W'.heap[w.heap.size]? = some (Obj.cells #[.int .i64 k, .int .i64 n, .string m, .slice la ll lc, .slice sa sl sc] 25 (0, 0)) ∧ W'.heap[w.heap.size + 1]? = some (Obj.cells #[.int .i64 0, .int .i64 0, .string ⟨#[]⟩, .slice none 0 0, .slice none 0 0] 25 (0, 0))) := fun W' h => ⟨(h.block w.heap.size (by omega)).trans HR0.out, (h.block (w.heap.size + 1) (by omega)).trans HR1.out⟩
 have HW : Hid (Below W.heap.size W W) := Below.refl _ _
 clear HR0 HR1
 obtain ⟨f1, hf1⟩ : ∃ q, farB by' = q := ⟨_, rfl⟩
 obtain ⟨f2, hf2⟩ : ∃ q, farB fr = q := ⟨_, rfl⟩
 have HF := Lib.hid (And.intro hf1 hf2)
 rw [hf1, hf2] at HBB
 clear hf1 hf2
 go_wp2_with fail
 refine (isFar_is by' W f1 HF.out.1).mono ?_
 rintro e v2 ⟨rfl, hbq⟩
 have Hv2 := Lib.hid (HW.out.trans (hbq.mono HW.out.size))
 clear hbq 
 cases f1 with
 | true =>
  obtain rfl : b = false := by rw [← HBB.out]; rfl
  have hrz := (HKR.out _ Hv2.out).2
  obtain ⟨e0, e1, e2, e3, e4⟩ := five_cells hrz
  have g0 := frozen0 (p := 0) hrz
  have g1 := frozen0 (p := 1) hrz
  have g2 := frozen0 (p := 2) hrz
  have g3 := frozen0 (p := 3) hrz
  have g4 := frozen0 (p := 4) hrz
  go_wp2_with fail
  refine bodyPost_ret (results_row_tmp rfl _ _ (w.heap.size + 1) 25 _ (0, 0) _ rfl (set5_row hrz) Tryz.underlying25 rfl (by rw [hi0, Option.map_some, hz1]; rfl)) rfl ?_
  unfold BRet
  rw [if_neg (by simp)]
  exact ⟨set5_below (HB.out.trans (Hv2.out.mono HB.out.size)) _ 0 _ _ _ _ _ (by omega), rfl⟩
 | false =>
  have hbb := farB_no HF.out.1
  go_wp2_with fail
  refine (isFar_is fr v2 f2 HF.out.2).mono ?_
  rintro e v3 ⟨rfl, hbq⟩
  have Hv3 := Lib.hid (Hv2.out.trans (hbq.mono Hv2.out.size))
  clear hbq 
  cases f2 with
  | true =>
   obtain rfl : b = false := by rw [← HBB.out]; rfl
   have hrz := (HKR.out _ Hv3.out).2
   obtain ⟨e0, e1, e2, e3, e4⟩ := five_cells hrz
   have g0 := frozen0 (p := 0) hrz
   have g1 := frozen0 (p := 1) hrz
   have g2 := frozen0 (p := 2) hrz
   have g3 := frozen0 (p := 3) hrz
   have g4 := frozen0 (p := 4) hrz
   go_wp2_with fail
   refine bodyPost_ret (results_row_tmp rfl _ _ (w.heap.size + 1) 25 _ (0, 0) _ rfl (set5_row hrz) Tryz.underlying25 rfl (by rw [hi0, Option.map_some, hz1]; rfl)) rfl ?_
   unfold BRet
   rw [if_neg (by simp)]
   exact ⟨set5_below (HB.out.trans (Hv3.out.mono HB.out.size)) _ 0 _ _ _ _ _ (by omega), rfl⟩
  | false =>
   have hff := farB_no HF.out.2
   obtain ⟨rb, hrb⟩ : ∃ q, rightT RN 4 t 1125899906842624 = q := ⟨_, rfl⟩
   have HRB := Lib.hid hrb
   rw [hrb] at HBB
   clear hrb
   obtain ⟨a0, a1, a2, a3, a4⟩ := five_cells (HKR.out v3 Hv3.out).1
   have hbx := below_lit v3 (.cells #[.int .i64 k, .int .i64 n, .string m, .slice la ll lc, .slice sa sl sc] 25)
   have HRX : Hid (TsP (v3.alloc (.cells #[.int .i64 k, .int .i64 n, .string m, .slice la ll lc, .slice sa sl sc] 25)) (fun _ => True) (some ⟨v3.heap.size, 0, none⟩) 0 [t]) := tsP_row (ts := [t]) (ss := [(.slice la ll lc, .slice sa sl sc)]) rfl (by
    have := heap_alloc_new v3 (.cells #[.int .i64 k, .int .i64 n, .string m, .slice la ll lc, .slice sa sl sc] 25)
    rw [← HK.out, ← HNN.out, ← HMM.out] at this ⊢
    exact this) trivial (fun i h1 h2 => by
    obtain rfl : i = 0 := by simp at h1; omega
    exact tmP_below (HB.out.trans ((Hv3.out.trans (hbx.mono Hv3.out.size)).mono HB.out.size)) (tmP_weak (fun _ _ => trivial) HTT.out))
   have HBX := Lib.hid hbx
   clear hbx
   go_wp2_with fail
   refine (are_is RN [t] _ 1 1 _ HRX.out rfl (by omega) (by rw [nmOkL, nmOkL]; exact ⟨HNK.out, trivial⟩) (HCN.out.below (HB.out.trans ((Hv3.out.trans (HBX.out.mono Hv3.out.size)).mono HB.out.size))) rb (by have := HRB.out; simpa [areB] using this)).mono ?_
   rintro e v4 ⟨rfl, hbq⟩
   have Hv4 := Lib.hid (Hv3.out.trans ((HBX.out.trans (hbq.mono HBX.out.size)).mono Hv3.out.size))
   clear hbq HRX HBX
   clear a0 a1 a2 a3 a4
   cases rb with
   | false =>
    obtain rfl : b = false := by rw [← HBB.out]; rfl
    have hrz := (HKR.out _ Hv4.out).2
    obtain ⟨e0, e1, e2, e3, e4⟩ := five_cells hrz
    have g0 := frozen0 (p := 0) hrz
    have g1 := frozen0 (p := 1) hrz
    have g2 := frozen0 (p := 2) hrz
    have g3 := frozen0 (p := 3) hrz
    have g4 := frozen0 (p := 4) hrz
    go_wp2_with fail
    refine bodyPost_ret (results_row_tmp rfl _ _ (w.heap.size + 1) 25 _ (0, 0) _ rfl (set5_row hrz) Tryz.underlying25 rfl (by rw [hi0, Option.map_some, hz1]; rfl)) rfl ?_
    unfold BRet
    rw [if_neg (by simp)]
    exact ⟨set5_below (HB.out.trans (Hv4.out.mono HB.out.size)) _ 0 _ _ _ _ _ (by omega), rfl⟩
   | true =>
    obtain rfl : b = true := by rw [← HBB.out]; rfl
    have HTN := Lib.hid (rightT_ok HRB.out).2.1
    have hk4 : Hid (∀ W', Below W.heap.size W W' → W'.cell? ⟨w.heap.size, 0, none⟩ = some (.int .i64 k) ∧ W'.cell? ⟨w.heap.size, 1, none⟩ = some (.int .i64 n) ∧ W'.cell? ⟨w.heap.size, 2, none⟩ = some (.string m) ∧ W'.cell? ⟨w.heap.size, 3, none⟩ = some (.slice la ll lc) ∧ W'.cell? ⟨w.heap.size, 4, none⟩ = some (.slice sa sl sc)) := fun W' h => five_cells (HKR.out W' h).1
    have HX2 : Hid (tnodes X ≤ 2000) := by
     have : tnodes X ≤ 2000 := by rw [← HX.out, right_nodes by' fr HRB.out]; exact HTN.out
     exact this
    go_upto_region 3 with fail
    refine wp_region_held_drew (S := fun W' => W'.cell? ⟨w.heap.size, 0, none⟩ = some (.int .i64 k) ∧ W'.cell? ⟨w.heap.size, 1, none⟩ = some (.int .i64 n) ∧ W'.cell? ⟨w.heap.size, 2, none⟩ = some (.string m) ∧ W'.cell? ⟨w.heap.size, 3, none⟩ = some (.slice la ll lc) ∧ W'.cell? ⟨w.heap.size, 4, none⟩ = some (.slice sa sl sc)) (by kernel_rfl) (hk4.out _ (Hv4.out.trans (((Below.refl v4.heap.size v4).drew).mono Hv4.out.size))) (fun hHeld => ?_)
    refine take_in (i := 0) (v := ?_) rfl (by kernel_rfl) (by kernel_rfl) (by kernel_rfl) (fun _ _ _ h => h) (by rfl) ?_ hHeld ?_
    rotate_left
    ·intro w hSw
     (try dsimp only at hSw)
     go_simp
     try with_reducible rfl
    try simp only [Act.put, s1q, s2q, s3q]
    refine take_in (i := 1) (v := ?_) rfl (by kernel_rfl) (by kernel_rfl) (by kernel_rfl) (fun _ _ _ h => h) (by rfl) ?_ hHeld ?_
    rotate_left
    ·intro w hSw
     (try dsimp only at hSw)
     go_simp
     try with_reducible rfl
    try simp only [Act.put, s1q, s2q, s3q]
    refine take_in (i := 2) (v := ?_) rfl (by kernel_rfl) (by kernel_rfl) (by kernel_rfl) (fun _ _ _ h => h) (by rfl) ?_ hHeld ?_
    rotate_left
    ·intro w hSw
     (try dsimp only at hSw)
     go_simp
     try with_reducible rfl
    try simp only [Act.put, s1q, s2q, s3q]
    refine call_in (i := 3) rfl (by kernel_rfl) (fun K hK => ?_)
    clear hHeld
    go_simp
    refine (braised_ex RN by' fr (by omega) (by omega) _).mono ?_
    rintro e v5 ⟨Bf, Bb, rfl, hpc, hbq⟩
    have HPC := Lib.hid hpc
    have Hv5 := Lib.hid (Hv4.out.trans (((Below.refl v4.heap.size v4).drew.trans hbq).mono Hv4.out.size))
    clear hpc hbq
    try (go_wp2_with fail)
    refine hK.out _ _ (hk4.out _ Hv5.out) (fun hHeld => ?_)
    clear hK K
    try simp only [Act.put, s1q, s2q, s3q]
    refine call_in (i := 4) rfl (by kernel_rfl) (fun K hK => ?_)
    clear hHeld
    go_simp
    have hw := with_raised Bf Bb (raF by' fr) (cRa RN) t (.slice la ll lc) (.slice sa sl sc) v5 HPC.out (ra_few by' fr) (by have := HTN.out; omega) (ra_leaves HRB.out) (tmP_below (HB.out.trans (Hv5.out.mono HB.out.size)) (tmP_weak (fun _ _ => trivial) HTT.out))
    dsimp only [tv] at hw
    rw [HK.out, HNN.out, HMM.out] at hw
    refine hw.mono ?_
    clear hw
    rintro e v6 ⟨hbq, hres⟩
    rw [HX.out, if_pos HX2.out] at hres
    obtain ⟨l9, s9, rfl, ht9⟩ := hres
    obtain ⟨⟨xa, xl, xc, rfl⟩, ya, yl, yc, rfl⟩ := tmP_slices ht9
    dsimp only [tv]
    rw [HXX.out.1, HXX.out.2.1, HXX.out.2.2]
    have HT9 := Lib.hid ht9
    have Hv6 := Lib.hid (Hv5.out.trans (hbq.mono Hv5.out.size))
    have hrz := (HKR.out v6 Hv6.out).2
    clear hbq ht9
    obtain ⟨e0, e1, e2, e3, e4⟩ := five_cells hrz
    have g0 := frozen0 (p := 0) hrz
    have g1 := frozen0 (p := 1) hrz
    have g2 := frozen0 (p := 2) hrz
    have g3 := frozen0 (p := 3) hrz
    have g4 := frozen0 (p := 4) hrz
    try (go_wp2_with fail)
    refine hK.out _ _ (hk4.out _ Hv6.out) (fun hHeld => ?_)
    clear hK K
    try simp only [Act.put, s1q, s2q, s3q]
    refine take_in (i := 5) (v := ?_) rfl (by kernel_rfl) (by kernel_rfl) (by kernel_rfl) (fun _ _ _ h => h) (by rfl) ?_ hHeld ?_
    rotate_left
    ·intro w hSw
     (try dsimp only at hSw)
     go_simp
     try with_reducible rfl
    try simp only [Act.put, s1q, s2q, s3q]
    refine take_in (i := 6) (v := ?_) rfl (by kernel_rfl) (by kernel_rfl) (by kernel_rfl) (fun _ _ _ h => h) (by rfl) ?_ hHeld ?_
    rotate_left
    ·intro w hSw
     (try dsimp only at hSw)
     go_simp
     try with_reducible rfl
    try simp only [Act.put, s1q, s2q, s3q]
    refine call_in (i := 7) rfl (by kernel_rfl) (fun K hK => ?_)
    clear hHeld
    go_simp
    try (go_wp2_with fail)
    refine hK.out _ _ (five_cells ((set5_far' v6 (w.heap.size + 1) 0 w.heap.size _ _ _ _ _ (by omega)).trans (HKR.out v6 Hv6.out).1)) (fun hHeld => ?_)
    clear hK K
    try simp only [Act.put, s1q, s2q, s3q]
    refine take_in (i := 8) (v := ?_) rfl (by kernel_rfl) (by kernel_rfl) (by kernel_rfl) (fun _ _ _ h => h) (by rfl) ?_ hHeld ?_
    rotate_left
    ·intro w hSw
     (try dsimp only at hSw)
     go_simp
     try with_reducible rfl
    try simp only [Act.put, s1q, s2q, s3q]
    refine wpAnyH_done (by kernel_rfl) ?_ _
    go_wp2_with fail
    refine bodyPost_ret (results_row_tmp rfl _ _ (w.heap.size + 1) 25 _ (0, 0) _ rfl (set5_row hrz) Tryz.underlying25 rfl (by rw [hi0, Option.map_some, hz1]; rfl)) rfl ?_
    have hz := HZ.out
    have h5 := Hv5.out.size
    refine ⟨set5_below (HB.out.trans (Hv6.out.mono HB.out.size)) _ 0 _ _ _ _ _ (by omega), ?_⟩
    rw [if_pos rfl]
    refine ⟨.slice xa xl xc, .slice ya yl yc, by dsimp only [tv]; rw [HXX.out.1, HXX.out.2.1, HXX.out.2.2]; rfl, ?_⟩
    exact tmP_move (w := v6) (fun b hlt (hp : v5.heap.size ≤ b) => ⟨by omega, set5_far' v6 (w.heap.size + 1) 0 b _ _ _ _ _ (by omega)⟩) (by rw [set5_sz]; exact Nat.le_refl _) _ _ _ HT9.out
end Bnd
end Go.Proofs.YteomfakbbcpckaaGreatDoor
namespace Go.Proofs.YteomfakbbcpckaaGreatDoor
open Go.RowKit
open Lvl
open Trm
namespace Bnd
set_option maxRecDepth 100000 in
set_option maxHeartbeats 2500000 in
theorem inst_is (RN : ByteArray → Bool) (t : Tm) (l s : Value) (A : Option Addr) (len cap : Nat) (args : List Tm) (w : World) (ht : TmP w (fun _ => True) t l s) (hnm : nmOk t) (hts : TsP w (fun _ => True) A 0 args) (hlen : args.length = len) (hl47 : len ≤ 140737488355328) (hnms : nmOkL args) (CN : NameC w RN) (b : Bool) (hb : (rightT RN 4 t 1125899906842624 && (areB RN args && decide (tnodes (subT (instF args) t 0) ≤ 2000))) = b) :
  Calls Tryz.prog 14 #[tv t l s, .slice A len cap] w (BRet w b (subT (instF args) t 0)) := by
 obtain ⟨i0, hi0, hz0, hz1, hz2⟩ := info_parts infoTm
 have HNK := Lib.hid hnm
 have HCN := Lib.hid CN
 have HTS := Lib.hid hts
 have HLN := Lib.hid hlen
 have HNS := Lib.hid hnms
 obtain ⟨X, hX⟩ : ∃ X, subT (instF args) t 0 = X := ⟨_, rfl⟩
 have HX := Lib.hid hX
 rw [hX]
 obtain ⟨kx, hkx⟩ : ∃ q, tkOf X = q := ⟨_, rfl⟩
 obtain ⟨nx, hnx⟩ : ∃ q, tnOf X = q := ⟨_, rfl⟩
 obtain ⟨mx, hmx⟩ : ∃ q, tmOf X = q := ⟨_, rfl⟩
 have HXX := Lib.hid (And.intro hkx (And.intro hnx hmx))
 rw [hX] at hb
 have HBB := Lib.hid hb
 clear hnm CN hb hts hlen hnms hX hkx hnx hmx
 obtain ⟨⟨la, ll, lc, rfl⟩, sa, sl, sc, rfl⟩ := tmP_slices ht
 have HTT := Lib.hid ht
 obtain ⟨k, hk⟩ : ∃ k, tkOf t = k := ⟨_, rfl⟩
 obtain ⟨n, hn⟩ : ∃ n, tnOf t = n := ⟨_, rfl⟩
 obtain ⟨m, hmm⟩ : ∃ m, tmOf t = m := ⟨_, rfl⟩
 dsimp only [tv]
 rw [hk, hn, hmm]
 have HK := Lib.hid hk
 have HNN := Lib.hid hn
 have HMM := Lib.hid hmm
 clear hk hn hmm ht
 go_enter Tryz.func14, Tryz.ntmps14
 go_upto_region 1 with fail
 have z1 : (w.alloc (.cells #[.int .i64 k, .int .i64 n, .string m, .slice la ll lc, .slice sa sl sc] 25)).heap.size = w.heap.size + 1 := by simp
 have z2 : ((w.alloc (.cells #[.int .i64 k, .int .i64 n, .string m, .slice la ll lc, .slice sa sl sc] 25)).alloc (.cells #[.slice A len cap] 23)).heap.size = w.heap.size + 1 + 1 := by simp
 have z3 : (((w.alloc (.cells #[.int .i64 k, .int .i64 n, .string m, .slice la ll lc, .slice sa sl sc] 25)).alloc (.cells #[.slice A len cap] 23)).alloc (.cells #[.int .i64 0, .int .i64 0, .string ⟨#[]⟩, .slice none 0 0, .slice none 0 0] 25)).heap.size = w.heap.size + 1 + 1 + 1 := by simp
 have r0 : (w.alloc (.cells #[.int .i64 k, .int .i64 n, .string m, .slice la ll lc, .slice sa sl sc] 25)).heap[w.heap.size]? = some (Obj.cells #[.int .i64 k, .int .i64 n, .string m, .slice la ll lc, .slice sa sl sc] 25 (0, 0)) := by
  have := heap_alloc_new w (.cells #[.int .i64 k, .int .i64 n, .string m, .slice la ll lc, .slice sa sl sc] 25)
  exact this
 have r1 : ((w.alloc (.cells #[.int .i64 k, .int .i64 n, .string m, .slice la ll lc, .slice sa sl sc] 25)).alloc (.cells #[.slice A len cap] 23)).heap[w.heap.size + 1]? = some (Obj.cells #[.slice A len cap] 23 (0, 0)) := by
  have := heap_alloc_new (w.alloc (.cells #[.int .i64 k, .int .i64 n, .string m, .slice la ll lc, .slice sa sl sc] 25)) (.cells #[.slice A len cap] 23)
  rwa [z1] at this
 have r2 : (((w.alloc (.cells #[.int .i64 k, .int .i64 n, .string m, .slice la ll lc, .slice sa sl sc] 25)).alloc (.cells #[.slice A len cap] 23)).alloc (.cells #[.int .i64 0, .int .i64 0, .string ⟨#[]⟩, .slice none 0 0, .slice none 0 0] 25)).heap[w.heap.size + 1 + 1]? = some (Obj.cells #[.int .i64 0, .int .i64 0, .string ⟨#[]⟩, .slice none 0 0, .slice none 0 0] 25 (0, 0)) := by
  have := heap_alloc_new ((w.alloc (.cells #[.int .i64 k, .int .i64 n, .string m, .slice la ll lc, .slice sa sl sc] 25)).alloc (.cells #[.slice A len cap] 23)) (.cells #[.int .i64 0, .int .i64 0, .string ⟨#[]⟩, .slice none 0 0, .slice none 0 0] 25)
  rwa [z2] at this
 have HB := Lib.hid (((below_lit w (.cells #[.int .i64 k, .int .i64 n, .string m, .slice la ll lc, .slice sa sl sc] 25)).trans ((below_lit (w.alloc (.cells #[.int .i64 k, .int .i64 n, .string m, .slice la ll lc, .slice sa sl sc] 25)) (.cells #[.slice A len cap] 23)).mono (below_lit w (.cells #[.int .i64 k, .int .i64 n, .string m, .slice la ll lc, .slice sa sl sc] 25)).size)).trans ((below_lit ((w.alloc (.cells #[.int .i64 k, .int .i64 n, .string m, .slice la ll lc, .slice sa sl sc] 25)).alloc (.cells #[.slice A len cap] 23)) (.cells #[.int .i64 0, .int .i64 0, .string ⟨#[]⟩, .slice none 0 0, .slice none 0 0] 25)).mono ((below_lit w (.cells #[.int .i64 k, .int .i64 n, .string m, .slice la ll lc, .slice sa sl sc] 25)).trans ((below_lit (w.alloc (.cells #[.int .i64 k, .int .i64 n, .string m, .slice la ll lc, .slice sa sl sc] 25)) (.cells #[.slice A len cap] 23)).mono (below_lit w (.cells #[.int .i64 k, .int .i64 n, .string m, .slice la ll lc, .slice sa sl sc] 25)).size)).size))
 have HR0 := Lib.hid ((heap_alloc_old ((w.alloc (.cells #[.int .i64 k, .int .i64 n, .string m, .slice la ll lc, .slice sa sl sc] 25)).alloc (.cells #[.slice A len cap] 23)) (.cells #[.int .i64 0, .int .i64 0, .string ⟨#[]⟩, .slice none 0 0, .slice none 0 0] 25) (by rw [z2]; omega)).trans ((heap_alloc_old (w.alloc (.cells #[.int .i64 k, .int .i64 n, .string m, .slice la ll lc, .slice sa sl sc] 25)) (.cells #[.slice A len cap] 23) (by rw [z1]; omega)).trans (r0)))
 have HR1 := Lib.hid ((heap_alloc_old ((w.alloc (.cells #[.int .i64 k, .int .i64 n, .string m, .slice la ll lc, .slice sa sl sc] 25)).alloc (.cells #[.slice A len cap] 23)) (.cells #[.int .i64 0, .int .i64 0, .string ⟨#[]⟩, .slice none 0 0, .slice none 0 0] 25) (by rw [z2]; omega)).trans (r1))
 have HR2 := Lib.hid (r2)
 clear r0 r1 r2
 generalize (((w.alloc (.cells #[.int .i64 k, .int .i64 n, .string m, .slice la ll lc, .slice sa sl sc] 25)).alloc (.cells #[.slice A len cap] 23)).alloc (.cells #[.int .i64 0, .int .i64 0, .string ⟨#[]⟩, .slice none 0 0, .slice none 0 0] 25)) = W at *
 have HZ := Lib.hid z3
 clear z1 z2 z3
 have hz := HZ.out
 have HKR : Hid (∀ W', Below W.heap.size W W' → W'.heap[w.heap.size]? = some (Obj.cells #[.int .i64 k, .int .i64 n, .string m, .slice la ll lc, .slice sa sl sc] 25 (0, 0)) ∧ W'.heap[w.heap.size + 1 + 1]? = some (Obj.cells #[.int .i64 0, .int .i64 0, .string ⟨#[]⟩, .slice none 0 0, .slice none 0 0] 25 (0, 0))) := fun W' h => ⟨(h.block w.heap.size (by omega)).trans HR0.out, (h.block (w.heap.size + 1 + 1) (by omega)).trans HR2.out⟩
 have HKS : Hid (∀ W', Below W.heap.size W W' → W'.cell? ⟨w.heap.size + 1, 0, none⟩ = some (.slice A len cap)) := fun W' h => cell_of_row _ _ 0 _ 23 (0, 0) ((h.block (w.heap.size + 1) (by omega)).trans HR1.out)
 have HW : Hid (Below W.heap.size W W) := Below.refl _ _
 clear HR0 HR1 HR2 hz
 obtain ⟨rb, hrb⟩ : ∃ q, rightT RN 4 t 1125899906842624 = q := ⟨_, rfl⟩
 have HRB := Lib.hid hrb
 obtain ⟨ra, hra⟩ : ∃ q, areB RN args = q := ⟨_, rfl⟩
 have HRA := Lib.hid hra
 rw [hrb, hra] at HBB
 clear hrb hra
 obtain ⟨a0, a1, a2, a3, a4⟩ := five_cells (HKR.out W HW.out).1
 have hbx := below_lit W (.cells #[.int .i64 k, .int .i64 n, .string m, .slice la ll lc, .slice sa sl sc] 25)
 have HRX : Hid (TsP (W.alloc (.cells #[.int .i64 k, .int .i64 n, .string m, .slice la ll lc, .slice sa sl sc] 25)) (fun _ => True) (some ⟨W.heap.size, 0, none⟩) 0 [t]) := tsP_row (ts := [t]) (ss := [(.slice la ll lc, .slice sa sl sc)]) rfl (by
  have := heap_alloc_new W (.cells #[.int .i64 k, .int .i64 n, .string m, .slice la ll lc, .slice sa sl sc] 25)
  rw [← HK.out, ← HNN.out, ← HMM.out] at this ⊢
  exact this) trivial (fun i h1 h2 => by
  obtain rfl : i = 0 := by simp at h1; omega
  exact tmP_below (HB.out.trans ((HW.out.trans (hbx.mono HW.out.size)).mono HB.out.size)) (tmP_weak (fun _ _ => trivial) HTT.out))
 have HBX := Lib.hid hbx
 clear hbx
 go_wp2_with fail
 refine (are_is RN [t] _ 1 1 _ HRX.out rfl (by omega) (by rw [nmOkL, nmOkL]; exact ⟨HNK.out, trivial⟩) (HCN.out.below (HB.out.trans ((HW.out.trans (HBX.out.mono HW.out.size)).mono HB.out.size))) rb (by have := HRB.out; simpa [areB] using this)).mono ?_
 rintro e v2 ⟨rfl, hbq⟩
 have Hv2 := Lib.hid (HW.out.trans ((HBX.out.trans (hbq.mono HBX.out.size)).mono HW.out.size))
 clear hbq HRX HBX
 clear a0 a1 a2 a3 a4
 cases rb with
 | false =>
  obtain rfl : b = false := by rw [← HBB.out]; rfl
  have hrz := (HKR.out _ Hv2.out).2
  obtain ⟨e0, e1, e2, e3, e4⟩ := five_cells hrz
  have g0 := frozen0 (p := 0) hrz
  have g1 := frozen0 (p := 1) hrz
  have g2 := frozen0 (p := 2) hrz
  have g3 := frozen0 (p := 3) hrz
  have g4 := frozen0 (p := 4) hrz
  go_wp2_with fail
  refine bodyPost_ret (results_row_tmp rfl _ _ (w.heap.size + 1 + 1) 25 _ (0, 0) _ rfl (set5_row hrz) Tryz.underlying25 rfl (by rw [hi0, Option.map_some, hz1]; rfl)) rfl ?_
  unfold BRet
  rw [if_neg (by simp)]
  exact ⟨set5_below (HB.out.trans (Hv2.out.mono HB.out.size)) _ 0 _ _ _ _ _ (by omega), rfl⟩
 | true =>
  have c0 := HKS.out v2 Hv2.out
  go_wp2_with fail
  refine (are_is RN args A len cap v2 (tsP_below (HB.out.trans (Hv2.out.mono HB.out.size)) HTS.out) HLN.out hl47 HNS.out (HCN.out.below (HB.out.trans (Hv2.out.mono HB.out.size))) ra HRA.out).mono ?_
  rintro e v3 ⟨rfl, hbq⟩
  have Hv3 := Lib.hid (Hv2.out.trans (hbq.mono Hv2.out.size))
  clear hbq c0
  cases ra with
  | false =>
   obtain rfl : b = false := by rw [← HBB.out]; rfl
   have hrz := (HKR.out _ Hv3.out).2
   obtain ⟨e0, e1, e2, e3, e4⟩ := five_cells hrz
   have g0 := frozen0 (p := 0) hrz
   have g1 := frozen0 (p := 1) hrz
   have g2 := frozen0 (p := 2) hrz
   have g3 := frozen0 (p := 3) hrz
   have g4 := frozen0 (p := 4) hrz
   go_wp2_with fail
   refine bodyPost_ret (results_row_tmp rfl _ _ (w.heap.size + 1 + 1) 25 _ (0, 0) _ rfl (set5_row hrz) Tryz.underlying25 rfl (by rw [hi0, Option.map_some, hz1]; rfl)) rfl ?_
   unfold BRet
   rw [if_neg (by simp)]
   exact ⟨set5_below (HB.out.trans (Hv3.out.mono HB.out.size)) _ 0 _ _ _ _ _ (by omega), rfl⟩
  | true =>
   have HTN := Lib.hid (rightT_ok HRB.out).2.1
   have hw := with_inst (w.heap.size + 1) (instF args) (cRa RN) t (.slice la ll lc) (.slice sa sl sc) v3 (put_inst RN v3 (w.heap.size + 1) A len cap args (HKS.out v3 Hv3.out) (tsP_below (HB.out.trans (Hv3.out.mono HB.out.size)) HTS.out) HLN.out hl47 HRA.out) (in_few HRA.out) (by have := HTN.out; omega) (ra_leaves HRB.out) (tmP_below (HB.out.trans (Hv3.out.mono HB.out.size)) (tmP_weak (fun _ _ => trivial) HTT.out))
   rw [HX.out] at hw
   dsimp only [tv] at hw
   rw [HK.out, HNN.out, HMM.out] at hw
   have HWC := Lib.hid hw
   clear hw
   by_cases hX2 : tnodes X ≤ 2000
   ·obtain rfl : b = true := by rw [← HBB.out]; simp [hX2]
    obtain ⟨a0, a1, a2, a3, a4⟩ := five_cells (HKR.out _ Hv3.out).1
    go_wp2_with fail
    refine HWC.out.mono ?_
    rintro e v6 ⟨hbq, hres⟩
    rw [if_pos hX2] at hres
    obtain ⟨l9, s9, rfl, ht9⟩ := hres
    obtain ⟨⟨xa, xl, xc, rfl⟩, ya, yl, yc, rfl⟩ := tmP_slices ht9
    dsimp only [tv]
    rw [HXX.out.1, HXX.out.2.1, HXX.out.2.2]
    have HT9 := Lib.hid ht9
    have Hv6 := Lib.hid (Hv3.out.trans (hbq.mono Hv3.out.size))
    have hrz := (HKR.out v6 Hv6.out).2
    clear hbq ht9 a0 a1 a2 a3 a4 HWC
    obtain ⟨e0, e1, e2, e3, e4⟩ := five_cells hrz
    have g0 := frozen0 (p := 0) hrz
    have g1 := frozen0 (p := 1) hrz
    have g2 := frozen0 (p := 2) hrz
    have g3 := frozen0 (p := 3) hrz
    have g4 := frozen0 (p := 4) hrz
    go_wp2_with fail
    refine bodyPost_ret (results_row_tmp rfl _ _ (w.heap.size + 1 + 1) 25 _ (0, 0) _ rfl (set5_row hrz) Tryz.underlying25 rfl (by rw [hi0, Option.map_some, hz1]; rfl)) rfl ?_
    have hz := HZ.out
    have h5 := Hv3.out.size
    refine ⟨set5_below (HB.out.trans (Hv6.out.mono HB.out.size)) _ 0 _ _ _ _ _ (by omega), ?_⟩
    rw [if_pos rfl]
    refine ⟨.slice xa xl xc, .slice ya yl yc, by dsimp only [tv]; rw [HXX.out.1, HXX.out.2.1, HXX.out.2.2]; rfl, ?_⟩
    exact tmP_move (w := v6) (fun b hlt (hp : v3.heap.size ≤ b) => ⟨by omega, set5_far' v6 (w.heap.size + 1 + 1) 0 b _ _ _ _ _ (by omega)⟩) (by rw [set5_sz]; exact Nat.le_refl _) _ _ _ HT9.out
   ·obtain rfl : b = false := by rw [← HBB.out]; simp [hX2]
    obtain ⟨a0, a1, a2, a3, a4⟩ := five_cells (HKR.out _ Hv3.out).1
    go_wp2_with fail
    refine HWC.out.mono ?_
    rintro e v6 ⟨hbq, hres⟩
    rw [if_neg hX2] at hres
    subst hres
    have Hv6 := Lib.hid (Hv3.out.trans (hbq.mono Hv3.out.size))
    clear hbq a0 a1 a2 a3 a4 HWC
    have hrz := (HKR.out _ Hv6.out).2
    obtain ⟨e0, e1, e2, e3, e4⟩ := five_cells hrz
    have g0 := frozen0 (p := 0) hrz
    have g1 := frozen0 (p := 1) hrz
    have g2 := frozen0 (p := 2) hrz
    have g3 := frozen0 (p := 3) hrz
    have g4 := frozen0 (p := 4) hrz
    go_wp2_with fail
    refine bodyPost_ret (results_row_tmp rfl _ _ (w.heap.size + 1 + 1) 25 _ (0, 0) _ rfl (set5_row hrz) Tryz.underlying25 rfl (by rw [hi0, Option.map_some, hz1]; rfl)) rfl ?_
    unfold BRet
    rw [if_neg (by simp)]
    exact ⟨set5_below (HB.out.trans (Hv6.out.mono HB.out.size)) _ 0 _ _ _ _ _ (by omega), rfl⟩
set_option maxRecDepth 100000 in
set_option maxHeartbeats 2500000 in
theorem bcount_is (RN : ByteArray → Bool) (z : Int) (t : Tm) (l s : Value) (w : World) (ht : TmP w (fun _ => True) t l s) (hnm : nmOk t) (CN : NameC w RN) (c : Nat) (hc : (if rightT RN 4 t 1125899906842624 = true then cntT (fun n => n == z) t 0 else 0) = c) :
  Calls Tryz.prog 24 #[tv t l s, .int .i64 z] w (Ret w (.int .i64 c)) := by
 have HNK := Lib.hid hnm
 have HCN := Lib.hid CN
 have HCC := Lib.hid hc
 clear hnm CN hc
 obtain ⟨⟨la, ll, lc, rfl⟩, sa, sl, sc, rfl⟩ := tmP_slices ht
 have HTT := Lib.hid ht
 obtain ⟨k, hk⟩ : ∃ k, tkOf t = k := ⟨_, rfl⟩
 obtain ⟨n, hn⟩ : ∃ n, tnOf t = n := ⟨_, rfl⟩
 obtain ⟨m, hmm⟩ : ∃ m, tmOf t = m := ⟨_, rfl⟩
 dsimp only [tv]
 rw [hk, hn, hmm]
 have HK := Lib.hid hk
 have HNN := Lib.hid hn
 have HMM := Lib.hid hmm
 clear hk hn hmm ht
 go_enter Tryz.func24, Tryz.ntmps24
 go_upto_region 1 with fail
 have z1 : (w.alloc (.cells #[.int .i64 k, .int .i64 n, .string m, .slice la ll lc, .slice sa sl sc] 25)).heap.size = w.heap.size + 1 := by simp
 have z2 : ((w.alloc (.cells #[.int .i64 k, .int .i64 n, .string m, .slice la ll lc, .slice sa sl sc] 25)).alloc (.cells #[.int .i64 z] 3)).heap.size = w.heap.size + 1 + 1 := by simp
 have r0 : (w.alloc (.cells #[.int .i64 k, .int .i64 n, .string m, .slice la ll lc, .slice sa sl sc] 25)).heap[w.heap.size]? = some (Obj.cells #[.int .i64 k, .int .i64 n, .string m, .slice la ll lc, .slice sa sl sc] 25 (0, 0)) := by
  have := heap_alloc_new w (.cells #[.int .i64 k, .int .i64 n, .string m, .slice la ll lc, .slice sa sl sc] 25)
  exact this
 have r1 : ((w.alloc (.cells #[.int .i64 k, .int .i64 n, .string m, .slice la ll lc, .slice sa sl sc] 25)).alloc (.cells #[.int .i64 z] 3)).heap[w.heap.size + 1]? = some (Obj.cells #[.int .i64 z] 3 (0, 0)) := by
  have := heap_alloc_new (w.alloc (.cells #[.int .i64 k, .int .i64 n, .string m, .slice la ll lc, .slice sa sl sc] 25)) (.cells #[.int .i64 z] 3)
  rwa [z1] at this
 have HB := Lib.hid ((below_lit w (.cells #[.int .i64 k, .int .i64 n, .string m, .slice la ll lc, .slice sa sl sc] 25)).trans ((below_lit (w.alloc (.cells #[.int .i64 k, .int .i64 n, .string m, .slice la ll lc, .slice sa sl sc] 25)) (.cells #[.int .i64 z] 3)).mono (below_lit w (.cells #[.int .i64 k, .int .i64 n, .string m, .slice la ll lc, .slice sa sl sc] 25)).size))
 have HR0 := Lib.hid ((heap_alloc_old (w.alloc (.cells #[.int .i64 k, .int .i64 n, .string m, .slice la ll lc, .slice sa sl sc] 25)) (.cells #[.int .i64 z] 3) (by rw [z1]; omega)).trans (r0))
 have HR1 := Lib.hid (r1)
 clear r0 r1
 generalize ((w.alloc (.cells #[.int .i64 k, .int .i64 n, .string m, .slice la ll lc, .slice sa sl sc] 25)).alloc (.cells #[.int .i64 z] 3)) = W at *
 have HZ := Lib.hid z2
 clear z1 z2
 have hz := HZ.out
 have HKR : Hid (∀ W', Below W.heap.size W W' → W'.heap[w.heap.size]? = some (Obj.cells #[.int .i64 k, .int .i64 n, .string m, .slice la ll lc, .slice sa sl sc] 25 (0, 0)) ∧ W'.heap[w.heap.size + 1]? = some (Obj.cells #[.int .i64 z] 3 (0, 0))) := fun W' h => ⟨(h.block w.heap.size (by omega)).trans HR0.out, (h.block (w.heap.size + 1) (by omega)).trans HR1.out⟩
 have HW : Hid (Below W.heap.size W W) := Below.refl _ _
 clear HR0 HR1 hz
 obtain ⟨rb, hrb⟩ : ∃ q, rightT RN 4 t 1125899906842624 = q := ⟨_, rfl⟩
 have HRB := Lib.hid hrb
 rw [hrb] at HCC
 clear hrb
 obtain ⟨a0, a1, a2, a3, a4⟩ := five_cells (HKR.out W HW.out).1
 have hbx := below_lit W (.cells #[.int .i64 k, .int .i64 n, .string m, .slice la ll lc, .slice sa sl sc] 25)
 have HRX : Hid (TsP (W.alloc (.cells #[.int .i64 k, .int .i64 n, .string m, .slice la ll lc, .slice sa sl sc] 25)) (fun _ => True) (some ⟨W.heap.size, 0, none⟩) 0 [t]) := tsP_row (ts := [t]) (ss := [(.slice la ll lc, .slice sa sl sc)]) rfl (by
  have := heap_alloc_new W (.cells #[.int .i64 k, .int .i64 n, .string m, .slice la ll lc, .slice sa sl sc] 25)
  rw [← HK.out, ← HNN.out, ← HMM.out] at this ⊢
  exact this) trivial (fun i h1 h2 => by
  obtain rfl : i = 0 := by simp at h1; omega
  exact tmP_below (HB.out.trans ((HW.out.trans (hbx.mono HW.out.size)).mono HB.out.size)) (tmP_weak (fun _ _ => trivial) HTT.out))
 have HBX := Lib.hid hbx
 clear hbx
 go_wp2_with fail
 refine (are_is RN [t] _ 1 1 _ HRX.out rfl (by omega) (by rw [nmOkL, nmOkL]; exact ⟨HNK.out, trivial⟩) (HCN.out.below (HB.out.trans ((HW.out.trans (HBX.out.mono HW.out.size)).mono HB.out.size))) rb (by have := HRB.out; simpa [areB] using this)).mono ?_
 rintro e v2 ⟨rfl, hbq⟩
 have Hv2 := Lib.hid (HW.out.trans ((HBX.out.trans (hbq.mono HBX.out.size)).mono HW.out.size))
 clear hbq HRX HBX
 clear a0 a1 a2 a3 a4
 cases rb with
 | false =>
  obtain rfl : 0 = c := by rw [← HCC.out]; rfl
  go_wp2_with fail
  go_ret
  exact ⟨rfl, HB.out.trans (Hv2.out.mono HB.out.size)⟩
 | true =>
  have hcc : cntT (fun n => n == z) t 0 = c := by rw [← HCC.out]; rfl
  have hcall := cnt_cnt RN (w.heap.size + 1) (fun n => n == z) t (.slice la ll lc) (.slice sa sl sc) v2 (is_cnt v2 _ z (cell_of_row _ _ 0 _ 3 (0, 0) (HKR.out v2 Hv2.out).2)) HRB.out (tmP_below (HB.out.trans (Hv2.out.mono HB.out.size)) (tmP_weak (fun _ _ => trivial) HTT.out))
  rw [hcc] at hcall
  dsimp only [tv] at hcall
  rw [HK.out, HNN.out, HMM.out] at hcall
  have HCALL := Lib.hid hcall
  clear hcall hcc
  obtain ⟨a0, a1, a2, a3, a4⟩ := five_cells (HKR.out v2 Hv2.out).1
  go_wp2_with fail
  refine (HCALL.out).mono ?_
  rintro e v3 ⟨rfl, hbq⟩
  have Hv3 := Lib.hid (Hv2.out.trans (hbq.mono Hv2.out.size))
  clear hbq a0 a1 a2 a3 a4
  go_wp2_with fail
  go_ret
  exact ⟨rfl, HB.out.trans (Hv3.out.mono HB.out.size)⟩
set_option maxRecDepth 100000 in
set_option maxHeartbeats 2500000 in
theorem buses_is (RN : ByteArray → Bool) (z : Int) (t : Tm) (l s : Value) (w : World) (ht : TmP w (fun _ => True) t l s) (hnm : nmOk t) (CN : NameC w RN) (b : Bool) (hb : decide (0 < (if rightT RN 4 t 1125899906842624 = true then cntT (fun n => n == z) t 0 else 0)) = b) :
  Calls Tryz.prog 23 #[tv t l s, .int .i64 z] w (Ret w (.bool b)) := by
 have HNK := Lib.hid hnm
 have HCN := Lib.hid CN
 obtain ⟨c, hc⟩ : ∃ c, (if rightT RN 4 t 1125899906842624 = true then cntT (fun n => n == z) t 0 else 0) = c := ⟨_, rfl⟩
 rw [hc] at hb
 have HCC := Lib.hid hc
 have HBB := Lib.hid hb
 clear hnm CN hc hb
 obtain ⟨⟨la, ll, lc, rfl⟩, sa, sl, sc, rfl⟩ := tmP_slices ht
 have HTT := Lib.hid ht
 obtain ⟨k, hk⟩ : ∃ k, tkOf t = k := ⟨_, rfl⟩
 obtain ⟨n, hn⟩ : ∃ n, tnOf t = n := ⟨_, rfl⟩
 obtain ⟨m, hmm⟩ : ∃ m, tmOf t = m := ⟨_, rfl⟩
 dsimp only [tv]
 rw [hk, hn, hmm]
 have HK := Lib.hid hk
 have HNN := Lib.hid hn
 have HMM := Lib.hid hmm
 clear hk hn hmm ht
 go_enter Tryz.func23, Tryz.ntmps23
 go_wp2_with fail
 have z1 : (w.alloc (.cells #[.int .i64 k, .int .i64 n, .string m, .slice la ll lc, .slice sa sl sc] 25)).heap.size = w.heap.size + 1 := by simp
 have r0 : (w.alloc (.cells #[.int .i64 k, .int .i64 n, .string m, .slice la ll lc, .slice sa sl sc] 25)).heap[w.heap.size]? = some (Obj.cells #[.int .i64 k, .int .i64 n, .string m, .slice la ll lc, .slice sa sl sc] 25 (0, 0)) := by
  have := heap_alloc_new w (.cells #[.int .i64 k, .int .i64 n, .string m, .slice la ll lc, .slice sa sl sc] 25)
  exact this
 have HB := Lib.hid (below_lit w (.cells #[.int .i64 k, .int .i64 n, .string m, .slice la ll lc, .slice sa sl sc] 25))
 have HR0 := Lib.hid (r0)
 clear r0
 generalize (w.alloc (.cells #[.int .i64 k, .int .i64 n, .string m, .slice la ll lc, .slice sa sl sc] 25)) = W at *
 have HZ := Lib.hid z1
 clear z1
 have hcall := bcount_is RN z t (.slice la ll lc) (.slice sa sl sc) W (tmP_below HB.out (tmP_weak (fun _ _ => trivial) HTT.out)) HNK.out (HCN.out.below HB.out) c HCC.out
 dsimp only [tv] at hcall
 rw [HK.out, HNN.out, HMM.out] at hcall
 refine hcall.mono ?_
 clear hcall
 rintro e v2 ⟨rfl, hbq⟩
 have HB2 := Lib.hid (HB.out.trans (hbq.mono HB.out.size))
 clear hbq
 by_cases h0 : 0 < c
 ·obtain rfl : b = true := by rw [← HBB.out]; simp [h0]
  have d1 : decide ((0 : Int) < (c : Int)) = true := by simp; omega
  have d2 : decide (0 < c) = true := by simp; omega
  go_wp2_with fail
  go_ret
  exact ⟨rfl, HB2.out⟩
 ·obtain rfl : b = false := by rw [← HBB.out]; simp [h0]
  have d1 : decide ((0 : Int) < (c : Int)) = false := by simp; omega
  have d2 : decide (0 < c) = false := by simp; omega
  go_wp2_with fail
  go_ret
  exact ⟨rfl, HB2.out⟩
end Bnd
end Go.Proofs.YteomfakbbcpckaaGreatDoor
