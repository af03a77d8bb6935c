/-
  Plain facts and contracts that the law's proof stands on, joined.
  Conditions: each fact's own.
-/
import Derived.Test.YteomfakbbcpckaaGreatDoorJ01
import Derived.ArgAppend
import Derived.Maps.AppendAt
import Derived.Laws.AppendOwnNone
import Derived.Lib.RowBridge
import Derived.BigQuiet
namespace Go.Proofs.YteomfakbbcpckaaGreatDoor
open Go.RowKit
def Ret (w : World) (v : Value) (e : Ending) (w' : World) : Prop := e = .returned v ∧ Below w.heap.size w w'
def SliceRet (w : World) (xs : List ByteArray) (e : Ending) (w' : World) : Prop :=
 ∃ A n c, e = .returned (.slice A n c) ∧ xs.length = n ∧ n ≤ c ∧ (A = none → c = 0) ∧ Txt w' A xs ∧ Below w.heap.size w w'
theorem cell_alloc_texts (w : World) (xs : List ByteArray) (k : Nat) (hk : k < xs.length) : (w.alloc (.cells (xs.map Value.string).toArray 9)).cell? ⟨w.heap.size, k, none⟩ = some (.string xs[k]) := by
 rw [cell_of_row _ w.heap.size k (xs.map Value.string).toArray 9 (0, 0) (heap_alloc_new w _)]
 simp [hk]
theorem txt_new (w : World) (xs : List ByteArray) : Txt (w.alloc (.cells (xs.map Value.string).toArray 9)) (some ⟨w.heap.size, 0, none⟩) xs := fun _ =>
 ⟨w.heap.size, 0, rfl, by simp, fun j x hx => by
  obtain ⟨hj, rfl⟩ := List.getElem?_eq_some_iff.1 hx
  rw [Nat.zero_add]
  exact cell_alloc_texts w xs j hj⟩
theorem txt_nil (w : World) (A : Option Addr) : Txt w A [] := fun h => absurd rfl h
theorem txt_lit (w : World) (xs : List ByteArray) (O : Array Value) (hO : (xs.map Value.string).toArray = O) : Txt (w.alloc (.cells O 9)) (some ⟨w.heap.size, 0, none⟩) xs := by
 subst hO; exact txt_new w xs
theorem below_lit (w : World) (O : Obj) : Below w.heap.size w (w.alloc O) := (Below.refl _ _).alloc (Nat.le_refl _) _
theorem infoStr : (Tryz.prog.info? 9).map (fun i => (i.zero, i.size, i.bytes)) = some (some (.string ByteArray.empty), 1, 16) := by kernel_rfl
theorem txt_add (b o j : Nat) : (⟨b, o, none⟩ : Addr).add j = ⟨b, o + j, none⟩ := by
 unfold Addr.add
 by_cases h : j = 0
 ·subst h; simp
 ·simp [h]
theorem txt_of_own {w : World} {base : Nat} {v : Value} {n : Nat} {xs : List ByteArray} (h : w.ownsRow base 9 1 v n (xs.map Value.string)) :
  ∃ A c, v = .slice A n c ∧ xs.length = n ∧ n ≤ c ∧ (A = none → c = 0) ∧ Txt w A xs := by
 have hl : xs.length = n := by have := h.1; simpa using this
 rcases h.2 with ⟨rfl, rfl⟩ | ⟨g, cap, cur, rfl, hb, hg, hn, hm, hs, ht⟩
 ·obtain rfl : xs = [] := List.length_eq_zero_iff.1 hl
  exact ⟨none, 0, rfl, rfl, Nat.le_refl _, fun _ => rfl, txt_nil _ _⟩
 ·refine ⟨some ⟨g, 0, none⟩, cap, rfl, hl, hn, fun e => absurd e (by simp), fun _ => ⟨g, 0, rfl, (h.lt g rfl).2, fun j x hx => ?_⟩⟩
  have hj : j < n := by rw [← hl]; exact (List.getElem?_eq_some_iff.1 hx).1
  rw [Nat.zero_add, h.cellAt j (by omega), List.getElem?_map, hx]; rfl
def TSl (w : World) (V : Value) (xs : List ByteArray) : Prop := ∃ A n c, V = .slice A n c ∧ xs.length = n ∧ n ≤ c ∧ (A = none → c = 0) ∧ Txt w A xs
theorem TSl.below {w w' : World} {V : Value} {xs : List ByteArray} (h : TSl w V xs) (hb : Below w.heap.size w w') : TSl w' V xs := by
 obtain ⟨A, n, c, e, h1, h2, h3, h4⟩ := h
 exact ⟨A, n, c, e, h1, h2, h3, h4.below hb⟩
theorem own_alloc {w : World} {base : Nat} {e : TypeId} {size : Nat} {v : Value} {n : Nat} {xs : List Value} (h : w.ownsRow base e size v n xs) (O : Obj) : (w.alloc O).ownsRow base e size v n xs := by
 rcases h with ⟨h0, h1 | ⟨g, cap, cur, h1, h2, h3, h4⟩⟩
 ·exact ⟨h0, .inl h1⟩
 ·exact ⟨h0, .inr ⟨g, cap, cur, h1, h2, (heap_alloc_old w O (by
   rcases Nat.lt_or_ge g w.heap.size with h | h
   ·exact h
   ·rw [Array.getElem?_eq_none h] at h3; cases h3)).trans h3, h4⟩⟩
theorem own_below {w w' : World} {base : Nat} {e : TypeId} {size : Nat} {v : Value} {n : Nat} {xs : List Value} (h : w.ownsRow base e size v n xs) (hb : Below w.heap.size w w') : w'.ownsRow base e size v n xs := by
 rcases h with ⟨h0, h1 | ⟨g, cap, cur, h1, h2, h3, h4⟩⟩
 ·exact ⟨h0, .inl h1⟩
 ·exact ⟨h0, .inr ⟨g, cap, cur, h1, h2, (hb.block g (by
   rcases Nat.lt_or_ge g w.heap.size with h | h
   ·exact h
   ·rw [Array.getElem?_eq_none h] at h3; cases h3)).trans h3, h4⟩⟩
theorem own_block {w : World} {base : Nat} {e : TypeId} {size : Nat} {v : Value} {n : Nat} {xs : List Value} (h : w.ownsRow base e size v n xs) : ∀ k, v.ownBlock = some k → base ≤ k := by
 intro k hk
 rcases h.2 with ⟨rfl, _⟩ | ⟨g, cap, cur, rfl, h2, _⟩
 ·cases hk
 ·cases hk; exact h2
end Go.Proofs.YteomfakbbcpckaaGreatDoor
namespace Go.Proofs.YteomfakbbcpckaaGreatDoor
open Go.RowKit
open Lvl
abbrev kindOf : Lv → Int | .mk k _ _ => k
abbrev numOf : Lv → Int | .mk _ n _ => n
abbrev argsOf : Lv → List Lv | .mk _ _ ts => ts
mutual
def LvS (w : World) : Lv → Value → Prop
 | .mk _ _ ts, s => ∃ A len cap, s = .slice A len cap ∧ ts.length = len ∧ len ≤ cap ∧ len ≤ 140737488355328 ∧ (A = none → cap = 0) ∧ LsV w A 0 ts
def LsV (w : World) : Option Addr → Nat → List Lv → Prop
 | _, _, [] => True
 | A, j, a :: ts => (∃ b o s, A = some ⟨b, o, none⟩ ∧ b < w.heap.size ∧ w.cell? ⟨b, o + j * 3, none⟩ = some (.int .i64 (kindOf a)) ∧ w.cell? ⟨b, o + j * 3 + 1, none⟩ = some (.int .i64 (numOf a)) ∧ w.cell? ⟨b, o + j * 3 + 2, none⟩ = some s ∧ LvS w a s) ∧ LsV w A (j + 1) ts
end
def LvV (w : World) (t : Lv) (v : Value) : Prop := ∃ s, v = .agg #[.int .i64 (kindOf t), .int .i64 (numOf t), s] ∧ LvS w t s
mutual
theorem lvS_below {w w' : World} (hb : Below w.heap.size w w') : ∀ (t : Lv) (s : Value), LvS w t s → LvS w' t s
 | .mk k n ts, s, h => by
  rw [LvS] at h ⊢
  obtain ⟨A, len, cap, e, h1, h2, h2b, h3, h4⟩ := h
  exact ⟨A, len, cap, e, h1, h2, h2b, h3, lsV_below hb A 0 ts h4⟩
theorem lsV_below {w w' : World} (hb : Below w.heap.size w w') : ∀ (A : Option Addr) (j : Nat) (ts : List Lv), LsV w A j ts → LsV w' A j ts
 | _, _, [], _ => by rw [LsV]; trivial
 | A, j, a :: ts, h => by
  rw [LsV] at h ⊢
  obtain ⟨⟨b, o, s, e, h1, h2, h3, h4, h5⟩, h6⟩ := h
  exact ⟨⟨b, o, s, e, Nat.lt_of_lt_of_le h1 hb.size, (hb.cell (p := ⟨b, _, none⟩) h1).trans h2, (hb.cell (p := ⟨b, _, none⟩) h1).trans h3, (hb.cell (p := ⟨b, _, none⟩) h1).trans h4, lvS_below hb a s h5⟩, lsV_below hb A (j + 1) ts h6⟩
end
theorem LvV.below {w w' : World} {t : Lv} {v : Value} (h : LvV w t v) (hb : Below w.heap.size w w') : LvV w' t v := by
 obtain ⟨s, e, h⟩ := h
 exact ⟨s, e, lvS_below hb t s h⟩
theorem lsV_at {w : World} : ∀ {A : Option Addr} {ts : List Lv} {j : Nat}, LsV w A j ts → ∀ i (h : i < ts.length), ∃ b o s, A = some ⟨b, o, none⟩ ∧ b < w.heap.size ∧ w.cell? ⟨b, o + (j + i) * 3, none⟩ = some (.int .i64 (kindOf ts[i])) ∧ w.cell? ⟨b, o + (j + i) * 3 + 1, none⟩ = some (.int .i64 (numOf ts[i])) ∧ w.cell? ⟨b, o + (j + i) * 3 + 2, none⟩ = some s ∧ LvS w ts[i] s
 | A, a :: ts, j, h, 0, _ => by
  rw [LsV] at h
  exact h.1
 | A, a :: ts, j, h, i + 1, hi => by
  rw [LsV] at h
  have := lsV_at h.2 i (by simpa using hi)
  rw [show j + 1 + i = j + (i + 1) by omega] at this
  exact this
theorem lsV_get {w : World} {A : Option Addr} {ts : List Lv} (h : LsV w A 0 ts) (i : Nat) (hi : i < ts.length) : ∃ b o s, A = some ⟨b, o, none⟩ ∧ b < w.heap.size ∧ w.cell? ⟨b, o + i * 3, none⟩ = some (.int .i64 (kindOf ts[i])) ∧ w.cell? ⟨b, o + i * 3 + 1, none⟩ = some (.int .i64 (numOf ts[i])) ∧ w.cell? ⟨b, o + i * 3 + 2, none⟩ = some s ∧ LvS w ts[i] s := by
 have := lsV_at h i hi
 rw [Nat.zero_add] at this
 exact this
def CntTo (most j acc : Nat) (ts : List Lv) : Prop := min acc (most + 1) = min (1 + nodesL (ts.take j)) (most + 1) ∧ acc ≤ 2 * most + 2
theorem nodesL_take {ts : List Lv} {j : Nat} (h : j < ts.length) : nodesL (ts.take (j + 1)) = nodesL (ts.take j) + nodes ts[j] := by
 rw [List.take_add_one, List.getElem?_eq_getElem h, nodesL_append]
 simp [nodesL]
theorem nodesL_le (ts : List Lv) (j : Nat) : nodesL (ts.take j) ≤ nodesL ts := by
 have := nodesL_append (ts.take j) (ts.drop j)
 rw [List.take_append_drop] at this
 omega
theorem box_cells (w : World) (x y z : Value) (T : TypeId) : (w.alloc (.cells #[x, y, z] T)).cell? ⟨w.heap.size, 0, none⟩ = some x ∧ (w.alloc (.cells #[x, y, z] T)).cell? ⟨w.heap.size, 1, none⟩ = some y ∧ (w.alloc (.cells #[x, y, z] T)).cell? ⟨w.heap.size, 2, none⟩ = some z :=
 ⟨cell_of_row _ w.heap.size 0 #[x, y, z] T (0, 0) (heap_alloc_new w _), cell_of_row _ w.heap.size 1 #[x, y, z] T (0, 0) (heap_alloc_new w _), cell_of_row _ w.heap.size 2 #[x, y, z] T (0, 0) (heap_alloc_new w _)⟩
set_option maxRecDepth 100000 in
set_option maxHeartbeats 1000000 in
theorem levelNodes_up (most : Nat) (hm : most ≤ 1000) : ∀ (N : Nat) (t : Lv) (v : Value) (w : World), nodes t ≤ N → LvV w t v →
  Calls Tryz.prog 28 #[v, .int .i64 most] w (Ret w (.int .i64 (min (nodes t) (most + 1) : Nat))) := by
 intro N
 induction N with
 | zero => intro t v w h _; have := nodes_pos t; omega
 | succ N ih =>
 intro t v w hN hv
 obtain ⟨s, rfl, hs⟩ := hv
 cases t with
 | mk k n ts =>
 rw [LvS] at hs
 obtain ⟨A, len, cap, rfl, h1, h2, h2b, h3, h4⟩ := hs
 have IH := Lib.hid ih
 have HS := Lib.hid h4
 have HN := Lib.hid h1
 have HNN : Hid (nodesL ts ≤ N) := by
  rw [nodes] at hN
  have : nodesL ts ≤ N := by omega
  exact this
 obtain ⟨R, hR⟩ : ∃ R, min (nodes (.mk k n ts)) (most + 1) = R := ⟨_, rfl⟩
 have HR : Hid (min (1 + nodesL ts) (most + 1) = R) := by rw [nodes] at hR; exact hR
 rw [hR]
 clear h4 h1 h3 hN hR ih
 go_enter Tryz.func28, Tryz.ntmps28
 go_wp2_with fail
 obtain ⟨_, _, hbox⟩ := box_cells w (.int .i64 (kindOf (Lv.mk k n ts))) (.int .i64 (numOf (Lv.mk k n ts))) (.slice A len cap) 48
 have HB := Lib.hid (below_lit w (.cells #[.int .i64 (kindOf (Lv.mk k n ts)), .int .i64 (numOf (Lv.mk k n ts)), .slice A len cap] 48))
 have hsz : w.heap.size < (w.alloc (.cells #[.int .i64 (kindOf (Lv.mk k n ts)), .int .i64 (numOf (Lv.mk k n ts)), .slice A len cap] 48)).heap.size := by simp
 generalize w.alloc (.cells #[.int .i64 (kindOf (Lv.mk k n ts)), .int .i64 (numOf (Lv.mk k n ts)), .slice A len cap] 48) = W at *
 have HBX := Lib.hid hbox
 clear hbox
 go_loopw [5, 6] (fun c i wr => ∃ j acc : Nat, j ≤ len ∧ i = .int .i64 j ∧ c = .int .i64 acc ∧ Hid (CntTo most j acc ts) ∧ acc ≤ 2 * most + 2 ∧ Below W.heap.size W wr) (fun _ i _ => len - (intOf i).toNat)
 case atStart => exact ⟨0, 1, Nat.zero_le _, rfl, rfl, ⟨by simp [nodesL], by omega⟩, by omega, Below.refl _ _⟩
 case round =>
  obtain ⟨j, acc, hj, rfl, rfl, hc, ha, hb⟩ := hrel
  have HBW := Lib.hid hb
  have hbox := (hb.cell (p := ⟨w.heap.size, 2, none⟩) hsz).trans HBX.out
  have hsz2 : w.heap.size < wr.heap.size := Nat.lt_of_lt_of_le hsz hb.size
  have HSW := Lib.hid (lsV_below (HB.out.trans (hb.mono HB.out.size)) _ _ _ HS.out)
  clear hb
  by_cases hlt : j < len
  ·have hx1 : j < ts.length := by rw [HN.out]; exact hlt
   have hln : decide ((j : Int) < (len : Int)) = true := by simp; omega
   by_cases hmo : acc ≤ most
   ·have hd : decide ((acc : Int) ≤ (most : Int)) = true := by simp; omega
    obtain ⟨b, o, s, rfl, hb, hc0, hc1, hc2, hls⟩ := lsV_get HSW.out j hx1
    have hlt2 := Nat.lt_of_lt_of_le hb (Nat.le_refl _)
    have HLS : Hid (LvV wr ts[j] (.agg #[.int .i64 (kindOf ts[j]), .int .i64 (numOf ts[j]), s])) := ⟨s, rfl, hls⟩
    have HTN : Hid (nodes ts[j] ≤ N) := Nat.le_trans (nodes_mem (List.getElem_mem hx1)) HNN.out
    have HNT := Lib.hid (nodesL_take hx1)
    generalize kindOf ts[j] = ki at *
    generalize numOf ts[j] = nu at *
    generalize ts[j] = tj at *
    clear hls hlt2
    go_wp2_with fail
    refine (IH.out tj _ wr HTN.out HLS.out).mono ?_
    rintro e w2 ⟨rfl, hb2⟩
    obtain ⟨q, hq⟩ : ∃ q, min (nodes tj) (most + 1) = q := ⟨_, rfl⟩
    have hq2 : q ≤ most + 1 := by omega
    have HC2 : Hid (CntTo most (j + 1) (acc + q) ts) := by
     obtain ⟨h1, h2⟩ := hc.out
     refine ⟨?_, by omega⟩
     rw [HNT.out, ← hq]
     omega
    have HBW2 := Lib.hid (HBW.out.trans (hb2.mono HBW.out.size))
    rw [hq]
    clear hb2 hq HNT HTN HLS
    go_wp2_with fail
    go_roundw
    case rel => exact ⟨j + 1, acc + q, by omega, by go_num, by go_num, HC2, by omega, HBW2.out⟩
    case measure => simp [intOf]; omega
   ·have hd : decide ((acc : Int) ≤ (most : Int)) = false := by simp; omega
    have HF : Hid (R = most + 1) := by
     obtain ⟨h1, _⟩ := hc.out
     have h2 := nodesL_le ts j
     have h3 := HR.out
     have : R = most + 1 := by omega
     exact this
    by_cases hmo1 : acc = most + 1
    ·have HF2 : Hid (R = acc) := HF.out.trans hmo1.symm
     have hmi : (acc : Int) ≤ (most : Int) + 1 := by omega
     clear hmo1
     go_wp2_with fail
     go_ret
     exact ⟨by rw [HF2.out]; rfl, HB.out.trans (HBW.out.mono HB.out.size)⟩
    ·have hmi : (most : Int) + 1 < (acc : Int) := by omega
     go_wp2_with fail
     go_ret
     exact ⟨by rw [HF.out]; rfl, HB.out.trans (HBW.out.mono HB.out.size)⟩
  ·have hln : decide ((j : Int) < (len : Int)) = false := by simp; omega
   have HF : Hid (R = min acc (most + 1)) := by
    obtain ⟨h1, _⟩ := hc.out
    rw [List.take_of_length_le (by rw [HN.out]; omega)] at h1
    have h3 := HR.out
    have : R = min acc (most + 1) := by omega
    exact this
   by_cases hmo : acc ≤ most + 1
   ·have hmi : (acc : Int) ≤ (most : Int) + 1 := by omega
    have HF2 : Hid (R = acc) := by
     have := HF.out
     have : R = acc := by omega
     exact this
    go_wp2_with fail
    go_ret
    exact ⟨by rw [HF2.out]; rfl, HB.out.trans (HBW.out.mono HB.out.size)⟩
   ·have hmi : (most : Int) + 1 < (acc : Int) := by omega
    have HF2 : Hid (R = most + 1) := by
     have := HF.out
     have : R = most + 1 := by omega
     exact this
    go_wp2_with fail
    go_ret
    exact ⟨by rw [HF2.out]; rfl, HB.out.trans (HBW.out.mono HB.out.size)⟩
theorem levelNodes_is (t : Lv) (v : Value) (most : Nat) (w : World) (hv : LvV w t v) (hm : most ≤ 1000) (R : Nat) (hR : min (nodes t) (most + 1) = R) :
  Calls Tryz.prog 28 #[v, .int .i64 most] w (Ret w (.int .i64 R)) := by
 subst hR
 exact levelNodes_up most hm (nodes t) t v w (Nat.le_refl _) hv
end Go.Proofs.YteomfakbbcpckaaGreatDoor
namespace Go.Proofs.YteomfakbbcpckaaGreatDoor
open Go.RowKit
open Lvl
theorem lvS_slice {w : World} {t : Lv} {s : Value} (h : LvS w t s) : ∃ a l c, s = .slice a l c := by
 cases t with
 | mk k n ts =>
 rw [LvS] at h
 obtain ⟨A, len, cap, rfl, _⟩ := h
 exact ⟨_, _, _, rfl⟩
set_option maxRecDepth 100000 in
set_option maxHeartbeats 2000000 in
theorem count_up : ∀ (N : Nat) (t : Lv) (v : Value) (w : World) (most deep : Nat), nodes t ≤ N → N ≤ deep → deep ≤ 1099511627776 → most ≤ 1099511627776 → LvV w t v →
  Calls Tryz.prog 122 #[v, .int .i64 most, .int .i64 deep] w (Ret w (.int .i64 (min (nodes t) (most + 1) : Nat))) := by
 intro N
 induction N with
 | zero => intro t v w most deep h _ _ _ _; have := nodes_pos t; omega
 | succ N ih =>
 intro t v w most deep hN hdeep hd40 hm40 hv
 obtain ⟨s, rfl, hs⟩ := hv
 cases t with
 | mk k n ts =>
 rw [LvS] at hs
 obtain ⟨A, len, cap, rfl, h1, h2, h2b, h3, h4⟩ := hs
 have IH := Lib.hid ih
 have HS := Lib.hid h4
 have HN := Lib.hid h1
 have HNN : Hid (nodesL ts ≤ N) := by
  rw [nodes] at hN
  have : nodesL ts ≤ N := by omega
  exact this
 obtain ⟨R, hR⟩ : ∃ R, min (nodes (.mk k n ts)) (most + 1) = R := ⟨_, rfl⟩
 have HR : Hid (min (1 + nodesL ts) (most + 1) = R) := by rw [nodes] at hR; exact hR
 rw [hR]
 clear h4 h1 h3 hN hR ih
 have hdz : ((deep : Int) == 0) = false := by simp; omega
 have hds : (deep : Int) - 1 = ((deep - 1 : Nat) : Int) := by omega
 show Calls Tryz.prog 122 #[.agg #[.int .i64 k, .int .i64 n, .slice A len cap], .int .i64 most, .int .i64 deep] w (Ret w (.int .i64 R))
 go_enter Tryz.func122, Tryz.ntmps122
 go_wp2_with fail
 obtain ⟨_, _, hbox⟩ := box_cells w (.int .i64 k) (.int .i64 n) (.slice A len cap) 48
 have HB := Lib.hid (below_lit w (.cells #[.int .i64 k, .int .i64 n, .slice A len cap] 48))
 generalize w.alloc (.cells #[.int .i64 k, .int .i64 n, .slice A len cap] 48) = W at *
 clear hbox
 go_loopw [7, 17] (fun c i wr => ∃ j acc : Nat, j ≤ len ∧ i = .int .i64 j ∧ c = .int .i64 acc ∧ Hid (acc = min (1 + nodesL (ts.take j)) (most + 1)) ∧ acc ≤ most + 1 ∧ Below W.heap.size W wr) (fun _ i _ => len - (intOf i).toNat)
 case atStart => exact ⟨0, 1, Nat.zero_le _, rfl, rfl, by have : 1 = min (1 + nodesL (ts.take 0)) (most + 1) := (by simp [nodesL]); exact this, by omega, Below.refl _ _⟩
 case round =>
  obtain ⟨j, acc, hj, rfl, rfl, hc, ha, hb⟩ := hrel
  have HBW := Lib.hid hb
  have HB2 := Lib.hid (HB.out.trans (hb.mono HB.out.size))
  have HSW := Lib.hid (lsV_below HB2.out _ _ _ HS.out)
  clear hb
  by_cases hlt : j < len
  ·have hx1 : j < ts.length := by rw [HN.out]; exact hlt
   have hln : decide ((j : Int) < (len : Int)) = true := by simp; omega
   obtain ⟨b, o, s, rfl, hb, hc0, hc1, hc2, hls⟩ := lsV_get HSW.out j hx1
   obtain ⟨sa, sl, sc, rfl⟩ := lvS_slice hls
   have HLS : Hid (LvV wr ts[j] (.agg #[.int .i64 (kindOf ts[j]), .int .i64 (numOf ts[j]), .slice sa sl sc])) := ⟨_, rfl, hls⟩
   have HTN : Hid (nodes ts[j] ≤ N) := Nat.le_trans (nodes_mem (List.getElem_mem hx1)) HNN.out
   have HNT := Lib.hid (nodesL_take hx1)
   have hpos : Hid (1 ≤ nodes ts[j]) := nodes_pos _
   generalize kindOf ts[j] = ki at *
   generalize numOf ts[j] = nu at *
   generalize ts[j] = tj at *
   clear hls
   by_cases hmo : acc ≤ most
   ·have hd : decide ((most : Int) < (acc : Int)) = false := by simp; omega
    have hsub : (most : Int) - (acc : Int) = ((most - acc : Nat) : Int) := by omega
    go_wp2_with fail
    have hbl := below_lit wr (.cells #[.int .i64 ki, .int .i64 nu, .slice sa sl sc] 48)
    have HBL := Lib.hid hbl
    have hHL := HLS.out.below hbl
    generalize wr.alloc (.cells #[.int .i64 ki, .int .i64 nu, .slice sa sl sc] 48) = W1 at *
    clear hbl
    refine (IH.out tj _ W1 (most - acc) (deep - 1) HTN.out (by omega) (by omega) (by omega) hHL).mono ?_
    rintro e w2 ⟨rfl, hb2⟩
    obtain ⟨q, hq⟩ : ∃ q, min (nodes tj) (most - acc + 1) = q := ⟨_, rfl⟩
    have hq2 : q ≤ most - acc + 1 := by omega
    have HC2 : Hid (acc + q = min (1 + nodesL (ts.take (j + 1))) (most + 1)) := by
     have h1 := hc.out
     have : acc + q = min (1 + nodesL (ts.take (j + 1))) (most + 1) := by
      rw [HNT.out, ← hq]
      omega
     exact this
    have HBW2 := Lib.hid (HBW.out.trans ((HBL.out.trans (hb2.mono HBL.out.size)).mono HBW.out.size))
    rw [hq]
    clear hb2 hq HNT HTN HLS hHL
    go_wp2_with fail
    go_roundw
    case rel => exact ⟨j + 1, acc + q, by omega, by go_num, by go_num, HC2, by omega, HBW2.out⟩
    case measure => simp [intOf]; omega
   ·have hd : decide ((most : Int) < (acc : Int)) = true := by simp; omega
    have HF : Hid (R = acc) := by
     have h1 := hc.out
     have h2 := nodesL_le ts j
     have h3 := HR.out
     have : R = acc := by omega
     exact this
    go_wp2_with fail
    go_ret
    exact ⟨by rw [HF.out]; rfl, HB2.out.trans ((below_lit wr _).mono HB2.out.size)⟩
  ·have hln : decide ((j : Int) < (len : Int)) = false := by simp; omega
   have HF : Hid (R = acc) := by
    have h1 := hc.out
    rw [List.take_of_length_le (by rw [HN.out]; omega)] at h1
    have h3 := HR.out
    have : R = acc := by omega
    exact this
   go_wp2_with fail
   go_ret
   exact ⟨by rw [HF.out]; rfl, HB2.out⟩
theorem nodes_is (t : Lv) (v : Value) (w : World) (hv : LvV w t v) (hm : nodes t ≤ 100000) (R : Nat) (hR : min (nodes t) 65 = R) :
  Calls Tryz.prog 85 #[v] w (Ret w (.int .i64 R)) := by
 obtain ⟨s, rfl, hs⟩ := hv
 have HLS := Lib.hid (show LvV w t _ from ⟨s, rfl, hs⟩)
 have HM := Lib.hid hm
 have HR := Lib.hid hR
 generalize kindOf t = k at *
 generalize numOf t = n at *
 clear hs hm hR
 go_enter Tryz.func85, Tryz.ntmps85
 go_wp2_with fail
 have HB := Lib.hid (below_lit w (.cells #[.int .i64 k, .int .i64 n, s] 48))
 generalize w.alloc (.cells #[.int .i64 k, .int .i64 n, s] 48) = W at *
 refine (count_up (nodes t) t _ W 64 131072 (Nat.le_refl _) (by have := HM.out; omega) (by omega) (by omega) (HLS.out.below HB.out)).mono ?_
 rintro e w2 ⟨rfl, hb2⟩
 rw [HR.out]
 have HB2 := Lib.hid (HB.out.trans (hb2.mono HB.out.size))
 clear hb2
 go_wp2_with fail
 go_ret
 exact ⟨rfl, HB2.out⟩
end Go.Proofs.YteomfakbbcpckaaGreatDoor
namespace Go.Proofs.YteomfakbbcpckaaGreatDoor
open Go.RowKit
open Lvl
set_option maxRecDepth 100000 in
set_option maxHeartbeats 4000000 in
theorem refRight_up (m : Int) : ∀ (N : Nat) (t : Lv) (v : Value) (w : World) (b : Bool), nodes t ≤ N → LvV w t v → okB m t = b →
  Calls Tryz.prog 127 #[v, .int .i64 m] w (Ret w (.bool b)) := by
 intro N
 induction N with
 | zero => intro t v w b h _ _; have := nodes_pos t; omega
 | succ N ih =>
 intro t v w b hN hv hb
 obtain ⟨s, rfl, hs⟩ := hv
 cases t with
 | mk k n ts =>
 rw [LvS] at hs
 obtain ⟨A, len, cap, rfl, h1, h2, h2b, h3, h4⟩ := hs
 have IH := Lib.hid ih
 have HS := Lib.hid h4
 have HN := Lib.hid h1
 have HOK := Lib.hid hb
 have HNN : Hid (nodesL ts ≤ N) := by
  rw [nodes] at hN
  have : nodesL ts ≤ N := by omega
  exact this
 clear h4 h1 h3 hN ih hb
 show Calls Tryz.prog 127 #[.agg #[.int .i64 k, .int .i64 n, .slice A len cap], .int .i64 m] w (Ret w (.bool b))
 obtain ⟨hb0, hb1, hb2⟩ := box_cells w (.int .i64 k) (.int .i64 n) (.slice A len cap) 48
 have HB := Lib.hid (below_lit w (.cells #[.int .i64 k, .int .i64 n, .slice A len cap] 48))
 have hsz : w.heap.size < (w.alloc (.cells #[.int .i64 k, .int .i64 n, .slice A len cap] 48)).heap.size := by simp
 by_cases hk1 : k = 1
 ·subst hk1
  have HV : Hid (b = (decide (0 ≤ n) && decide (n ≤ 100) && decide (len = 0))) := by
   have := HOK.out
   rw [okB] at this
   simp only [HN.out] at this
   exact this.symm
  clear IH HS HNN HOK
  by_cases hn0 : 0 ≤ n
  ·have hd0 : decide ((0 : Int) ≤ n) = true := by simp; omega
   by_cases hn1 : n ≤ (100 : Int)
   ·have hd1 : decide (n ≤ (100 : Int)) = true := by simp; omega
    by_cases hl : len = 0
    ·subst hl
     obtain rfl : b = true := by rw [HV.out]; simp [*]
     go_enter Tryz.func127, Tryz.ntmps127
     go_wp2_with fail
     go_ret
     exact ⟨rfl, HB.out⟩
    ·have hl0 : ((len : Int) == 0) = false := by simp; omega
     obtain rfl : b = false := by rw [HV.out]; simp [*]
     go_enter Tryz.func127, Tryz.ntmps127
     go_wp2_with fail
     go_ret
     exact ⟨rfl, HB.out⟩
   ·have hd1 : decide (n ≤ (100 : Int)) = false := by simp; omega
    obtain rfl : b = false := by rw [HV.out]; simp [*]
    go_enter Tryz.func127, Tryz.ntmps127
    go_wp2_with fail
    go_ret
    exact ⟨rfl, HB.out⟩
  ·have hd0 : decide ((0 : Int) ≤ n) = false := by simp; omega
   obtain rfl : b = false := by rw [HV.out]; simp [*]
   go_enter Tryz.func127, Tryz.ntmps127
   go_wp2_with fail
   go_ret
   exact ⟨rfl, HB.out⟩
 ·by_cases hk2 : k = 2
  ·subst hk2
   have HV : Hid (b = (decide (0 ≤ n) && decide (n < m) && decide (len = 0))) := by
    have := HOK.out
    rw [okB] at this
    simp only [HN.out] at this
    exact this.symm
   clear IH HS HNN HOK
   by_cases hn0 : 0 ≤ n
   ·have hd0 : decide ((0 : Int) ≤ n) = true := by simp; omega
    by_cases hn1 : n < m
    ·have hd1 : decide (n < m) = true := by simp; omega
     by_cases hl : len = 0
     ·subst hl
      obtain rfl : b = true := by rw [HV.out]; simp [*]
      go_enter Tryz.func127, Tryz.ntmps127
      go_wp2_with fail
      go_ret
      exact ⟨rfl, HB.out⟩
     ·have hl0 : ((len : Int) == 0) = false := by simp; omega
      obtain rfl : b = false := by rw [HV.out]; simp [*]
      go_enter Tryz.func127, Tryz.ntmps127
      go_wp2_with fail
      go_ret
      exact ⟨rfl, HB.out⟩
    ·have hd1 : decide (n < m) = false := by simp; omega
     obtain rfl : b = false := by rw [HV.out]; simp [*]
     go_enter Tryz.func127, Tryz.ntmps127
     go_wp2_with fail
     go_ret
     exact ⟨rfl, HB.out⟩
   ·have hd0 : decide ((0 : Int) ≤ n) = false := by simp; omega
    obtain rfl : b = false := by rw [HV.out]; simp [*]
    go_enter Tryz.func127, Tryz.ntmps127
    go_wp2_with fail
    go_ret
    exact ⟨rfl, HB.out⟩
  ·by_cases hk3 : k = 3
   ·subst hk3
    have HV : Hid (b = (decide (n = 0) && decide (len = 1) && okL m ts)) := by
     have := HOK.out
     rw [okB] at this
     simp only [HN.out] at this
     exact this.symm
    by_cases hn0 : n = 0
    ·subst hn0
     by_cases hl : len = 1
     ·subst hl
      have HV2 : Hid (b = okL m ts) := by
       show b = okL m ts
       rw [HV.out]
       simp
      go_enter Tryz.func127, Tryz.ntmps127
      go_wp2_with fail
      clear hb0 hb1 HV
      generalize w.alloc (.cells #[.int .i64 _, .int .i64 0, .slice A 1 cap] 48) = W at *
      have HBX := Lib.hid hb2
      clear hb2
      go_loopw [6] (fun i wr => ∃ j : Nat, j ≤ 1 ∧ i = .int .i64 j ∧ Hid ((ts.take j).all (okB m) = true) ∧ Below W.heap.size W wr) (fun i _ => 1 - (intOf i).toNat)
      case atStart => exact ⟨0, by omega, rfl, rfl, Below.refl _ _⟩
      case round =>
       obtain ⟨j, hj, rfl, hall, hbw⟩ := hrel
       have HBW := Lib.hid hbw
       have hbox := (hbw.cell (p := ⟨w.heap.size, 2, none⟩) hsz).trans HBX.out
       have HB2 := Lib.hid (HB.out.trans (hbw.mono HB.out.size))
       have HSW := Lib.hid (lsV_below HB2.out _ _ _ HS.out)
       clear hbw
       by_cases hlt : j < 1
       ·have hx1 : j < ts.length := by rw [HN.out]; exact hlt
        have hln : decide ((j : Int) < 1) = true := by simp; omega
        obtain ⟨bk, o, s, rfl, hbs, hc0, hc1, hc2, hls⟩ := lsV_get HSW.out j hx1
        have HLS : Hid (LvV wr ts[j] (.agg #[.int .i64 (kindOf ts[j]), .int .i64 (numOf ts[j]), s])) := ⟨s, rfl, hls⟩
        have HTN : Hid (nodes ts[j] ≤ N) := Nat.le_trans (nodes_mem (List.getElem_mem hx1)) HNN.out
        have hji : (j : Int) < 1 := by omega
        cases hok : okB m ts[j]
        ·have HF : Hid (b = false) := by
          rw [HV2.out, okL_all]
          exact List.all_eq_false.2 ⟨_, List.getElem_mem hx1, by rw [hok]; simp⟩
         have HO := Lib.hid hok
         generalize kindOf ts[j] = ki at *
         generalize numOf ts[j] = nu at *
         generalize ts[j] = tj at *
         clear hls hok
         go_wp2_with fail
         refine (IH.out tj _ wr false HTN.out HLS.out HO.out).mono ?_
         rintro e w2 ⟨rfl, hb9⟩
         have HB9 := Lib.hid (HB2.out.trans (hb9.mono HB2.out.size))
         clear hb9
         go_wp2_with fail
         go_ret
         exact ⟨by rw [HF.out]; rfl, HB9.out⟩
        ·have HA : Hid ((ts.take (j + 1)).all (okB m) = true) := by
          show (ts.take (j + 1)).all (okB m) = true
          rw [List.take_add_one, List.getElem?_eq_getElem hx1, List.all_append, hall.out]
          simpa using hok
         have HO := Lib.hid hok
         generalize kindOf ts[j] = ki at *
         generalize numOf ts[j] = nu at *
         generalize ts[j] = tj at *
         clear hls hok
         go_wp2_with fail
         refine (IH.out tj _ wr true HTN.out HLS.out HO.out).mono ?_
         rintro e w2 ⟨rfl, hb9⟩
         have HB9 := Lib.hid (HBW.out.trans (hb9.mono HBW.out.size))
         clear hb9
         go_wp2_with fail
         go_roundw
         case rel => exact ⟨j + 1, by omega, by go_num, HA, HB9.out⟩
         case measure => simp [intOf]; omega
       ·obtain rfl : j = 1 := by omega
        have HF : Hid (b = true) := by
         rw [HV2.out, okL_all]
         have := hall.out
         rwa [List.take_of_length_le (by rw [HN.out]; exact Nat.le_refl _)] at this
        go_wp2_with fail
        go_ret
        exact ⟨by rw [HF.out]; rfl, HB2.out⟩
     ·have hl0 : decide ((len : Int) = 1) = false := by simp; omega
      obtain rfl : b = false := by rw [HV.out]; simp [*]
      go_enter Tryz.func127, Tryz.ntmps127
      go_wp2_with fail
      go_ret
      exact ⟨rfl, HB.out⟩
    ·have hd0 : decide (n = 0) = false := by simp; omega
     obtain rfl : b = false := by rw [HV.out]; simp [*]
     go_enter Tryz.func127, Tryz.ntmps127
     go_wp2_with fail
     go_ret
     exact ⟨rfl, HB.out⟩
   ·by_cases hk4 : k = 4
    ·subst hk4
     have HV : Hid (b = (decide (n = 0) && decide (len = 2) && okL m ts)) := by
      have := HOK.out
      rw [okB] at this
      simp only [HN.out] at this
      exact this.symm
     by_cases hn0 : n = 0
     ·subst hn0
      by_cases hl : len = 2
      ·subst hl
       have HV2 : Hid (b = okL m ts) := by
        show b = okL m ts
        rw [HV.out]
        simp
       go_enter Tryz.func127, Tryz.ntmps127
       go_wp2_with fail
       clear hb0 hb1 HV
       generalize w.alloc (.cells #[.int .i64 _, .int .i64 0, .slice A 2 cap] 48) = W at *
       have HBX := Lib.hid hb2
       clear hb2
       go_loopw [6] (fun i wr => ∃ j : Nat, j ≤ 2 ∧ i = .int .i64 j ∧ Hid ((ts.take j).all (okB m) = true) ∧ Below W.heap.size W wr) (fun i _ => 2 - (intOf i).toNat)
       case atStart => exact ⟨0, by omega, rfl, rfl, Below.refl _ _⟩
       case round =>
        obtain ⟨j, hj, rfl, hall, hbw⟩ := hrel
        have HBW := Lib.hid hbw
        have hbox := (hbw.cell (p := ⟨w.heap.size, 2, none⟩) hsz).trans HBX.out
        have HB2 := Lib.hid (HB.out.trans (hbw.mono HB.out.size))
        have HSW := Lib.hid (lsV_below HB2.out _ _ _ HS.out)
        clear hbw
        by_cases hlt : j < 2
        ·have hx1 : j < ts.length := by rw [HN.out]; exact hlt
         have hln : decide ((j : Int) < 2) = true := by simp; omega
         obtain ⟨bk, o, s, rfl, hbs, hc0, hc1, hc2, hls⟩ := lsV_get HSW.out j hx1
         have HLS : Hid (LvV wr ts[j] (.agg #[.int .i64 (kindOf ts[j]), .int .i64 (numOf ts[j]), s])) := ⟨s, rfl, hls⟩
         have HTN : Hid (nodes ts[j] ≤ N) := Nat.le_trans (nodes_mem (List.getElem_mem hx1)) HNN.out
         have hji : (j : Int) < 2 := by omega
         cases hok : okB m ts[j]
         ·have HF : Hid (b = false) := by
           rw [HV2.out, okL_all]
           exact List.all_eq_false.2 ⟨_, List.getElem_mem hx1, by rw [hok]; simp⟩
          have HO := Lib.hid hok
          generalize kindOf ts[j] = ki at *
          generalize numOf ts[j] = nu at *
          generalize ts[j] = tj at *
          clear hls hok
          go_wp2_with fail
          refine (IH.out tj _ wr false HTN.out HLS.out HO.out).mono ?_
          rintro e w2 ⟨rfl, hb9⟩
          have HB9 := Lib.hid (HB2.out.trans (hb9.mono HB2.out.size))
          clear hb9
          go_wp2_with fail
          go_ret
          exact ⟨by rw [HF.out]; rfl, HB9.out⟩
         ·have HA : Hid ((ts.take (j + 1)).all (okB m) = true) := by
           show (ts.take (j + 1)).all (okB m) = true
           rw [List.take_add_one, List.getElem?_eq_getElem hx1, List.all_append, hall.out]
           simpa using hok
          have HO := Lib.hid hok
          generalize kindOf ts[j] = ki at *
          generalize numOf ts[j] = nu at *
          generalize ts[j] = tj at *
          clear hls hok
          go_wp2_with fail
          refine (IH.out tj _ wr true HTN.out HLS.out HO.out).mono ?_
          rintro e w2 ⟨rfl, hb9⟩
          have HB9 := Lib.hid (HBW.out.trans (hb9.mono HBW.out.size))
          clear hb9
          go_wp2_with fail
          go_roundw
          case rel => exact ⟨j + 1, by omega, by go_num, HA, HB9.out⟩
          case measure => simp [intOf]; omega
        ·obtain rfl : j = 2 := by omega
         have HF : Hid (b = true) := by
          rw [HV2.out, okL_all]
          have := hall.out
          rwa [List.take_of_length_le (by rw [HN.out]; exact Nat.le_refl _)] at this
         go_wp2_with fail
         go_ret
         exact ⟨by rw [HF.out]; rfl, HB2.out⟩
      ·have hl0 : decide ((len : Int) = 2) = false := by simp; omega
       obtain rfl : b = false := by rw [HV.out]; simp [*]
       go_enter Tryz.func127, Tryz.ntmps127
       go_wp2_with fail
       go_ret
       exact ⟨rfl, HB.out⟩
     ·have hd0 : decide (n = 0) = false := by simp; omega
      obtain rfl : b = false := by rw [HV.out]; simp [*]
      go_enter Tryz.func127, Tryz.ntmps127
      go_wp2_with fail
      go_ret
      exact ⟨rfl, HB.out⟩
    ·by_cases hk5 : k = 5
     ·subst hk5
      have HV : Hid (b = (decide (n = 0) && decide (len = 2) && okL m ts)) := by
       have := HOK.out
       rw [okB] at this
       simp only [HN.out] at this
       exact this.symm
      by_cases hn0 : n = 0
      ·subst hn0
       by_cases hl : len = 2
       ·subst hl
        have HV2 : Hid (b = okL m ts) := by
         show b = okL m ts
         rw [HV.out]
         simp
        go_enter Tryz.func127, Tryz.ntmps127
        go_wp2_with fail
        clear hb0 hb1 HV
        generalize w.alloc (.cells #[.int .i64 _, .int .i64 0, .slice A 2 cap] 48) = W at *
        have HBX := Lib.hid hb2
        clear hb2
        go_loopw [6] (fun i wr => ∃ j : Nat, j ≤ 2 ∧ i = .int .i64 j ∧ Hid ((ts.take j).all (okB m) = true) ∧ Below W.heap.size W wr) (fun i _ => 2 - (intOf i).toNat)
        case atStart => exact ⟨0, by omega, rfl, rfl, Below.refl _ _⟩
        case round =>
         obtain ⟨j, hj, rfl, hall, hbw⟩ := hrel
         have HBW := Lib.hid hbw
         have hbox := (hbw.cell (p := ⟨w.heap.size, 2, none⟩) hsz).trans HBX.out
         have HB2 := Lib.hid (HB.out.trans (hbw.mono HB.out.size))
         have HSW := Lib.hid (lsV_below HB2.out _ _ _ HS.out)
         clear hbw
         by_cases hlt : j < 2
         ·have hx1 : j < ts.length := by rw [HN.out]; exact hlt
          have hln : decide ((j : Int) < 2) = true := by simp; omega
          obtain ⟨bk, o, s, rfl, hbs, hc0, hc1, hc2, hls⟩ := lsV_get HSW.out j hx1
          have HLS : Hid (LvV wr ts[j] (.agg #[.int .i64 (kindOf ts[j]), .int .i64 (numOf ts[j]), s])) := ⟨s, rfl, hls⟩
          have HTN : Hid (nodes ts[j] ≤ N) := Nat.le_trans (nodes_mem (List.getElem_mem hx1)) HNN.out
          have hji : (j : Int) < 2 := by omega
          cases hok : okB m ts[j]
          ·have HF : Hid (b = false) := by
            rw [HV2.out, okL_all]
            exact List.all_eq_false.2 ⟨_, List.getElem_mem hx1, by rw [hok]; simp⟩
           have HO := Lib.hid hok
           generalize kindOf ts[j] = ki at *
           generalize numOf ts[j] = nu at *
           generalize ts[j] = tj at *
           clear hls hok
           go_wp2_with fail
           refine (IH.out tj _ wr false HTN.out HLS.out HO.out).mono ?_
           rintro e w2 ⟨rfl, hb9⟩
           have HB9 := Lib.hid (HB2.out.trans (hb9.mono HB2.out.size))
           clear hb9
           go_wp2_with fail
           go_ret
           exact ⟨by rw [HF.out]; rfl, HB9.out⟩
          ·have HA : Hid ((ts.take (j + 1)).all (okB m) = true) := by
            show (ts.take (j + 1)).all (okB m) = true
            rw [List.take_add_one, List.getElem?_eq_getElem hx1, List.all_append, hall.out]
            simpa using hok
           have HO := Lib.hid hok
           generalize kindOf ts[j] = ki at *
           generalize numOf ts[j] = nu at *
           generalize ts[j] = tj at *
           clear hls hok
           go_wp2_with fail
           refine (IH.out tj _ wr true HTN.out HLS.out HO.out).mono ?_
           rintro e w2 ⟨rfl, hb9⟩
           have HB9 := Lib.hid (HBW.out.trans (hb9.mono HBW.out.size))
           clear hb9
           go_wp2_with fail
           go_roundw
           case rel => exact ⟨j + 1, by omega, by go_num, HA, HB9.out⟩
           case measure => simp [intOf]; omega
         ·obtain rfl : j = 2 := by omega
          have HF : Hid (b = true) := by
           rw [HV2.out, okL_all]
           have := hall.out
           rwa [List.take_of_length_le (by rw [HN.out]; exact Nat.le_refl _)] at this
          go_wp2_with fail
          go_ret
          exact ⟨by rw [HF.out]; rfl, HB2.out⟩
       ·have hl0 : decide ((len : Int) = 2) = false := by simp; omega
        obtain rfl : b = false := by rw [HV.out]; simp [*]
        go_enter Tryz.func127, Tryz.ntmps127
        go_wp2_with fail
        go_ret
        exact ⟨rfl, HB.out⟩
      ·have hd0 : decide (n = 0) = false := by simp; omega
       obtain rfl : b = false := by rw [HV.out]; simp [*]
       go_enter Tryz.func127, Tryz.ntmps127
       go_wp2_with fail
       go_ret
       exact ⟨rfl, HB.out⟩
     ·have hf : b = false := by
       have := HOK.out
       rw [okB, if_neg hk1, if_neg hk2, if_neg hk3, if_neg (by omega)] at this
       exact this.symm
      subst hf
      have e1 : decide (k = 1) = false := by simp; omega
      have e2 : decide (k = 2) = false := by simp; omega
      have e3 : decide (k = 3) = false := by simp; omega
      have e4 : decide (k = 4) = false := by simp; omega
      have e5 : decide (k = 5) = false := by simp; omega
      clear IH HS HNN HOK
      go_enter Tryz.func127, Tryz.ntmps127
      go_wp2_with fail
      go_ret
      exact ⟨rfl, HB.out⟩
end Go.Proofs.YteomfakbbcpckaaGreatDoor
namespace Go.Proofs.YteomfakbbcpckaaGreatDoor
open Go.RowKit
def Nts (w : World) (A : Option Addr) (zs : List Int) : Prop :=
 zs ≠ [] → ∃ b o, A = some ⟨b, o, none⟩ ∧ b < w.heap.size ∧ ∀ j z, zs[j]? = some z → w.cell? ⟨b, o + j, none⟩ = some (.int .i64 z)
theorem Nts.below {w w' : World} {A : Option Addr} {zs : List Int} (h : Nts w A zs) (hb : Below w.heap.size w w') : Nts w' A zs := fun hne => by
 obtain ⟨b, o, rfl, hlt, hc⟩ := h hne
 exact ⟨b, o, rfl, Nat.lt_of_lt_of_le hlt hb.size, fun j x hx => (hb.cell (p := ⟨b, o + j, none⟩) hlt).trans (hc j x hx)⟩
theorem Nts.at_ {w : World} {A : Option Addr} {zs : List Int} (h : Nts w A zs) {k : Nat} (hk : k < zs.length) :
  ∃ b o, A = some ⟨b, o, none⟩ ∧ b < w.heap.size ∧ w.cell? ⟨b, o + k, none⟩ = some (.int .i64 zs[k]) := by
 obtain ⟨b, o, rfl, hlt, hc⟩ := h (by intro e; subst e; exact absurd hk (Nat.not_lt_zero _))
 exact ⟨b, o, rfl, hlt, hc k _ (List.getElem?_eq_getElem hk)⟩
def NSl (w : World) (S : Value) (zs : List Int) : Prop := ∃ A n c, S = .slice A n c ∧ zs.length = n ∧ n ≤ c ∧ (A = none → c = 0) ∧ Nts w A zs
theorem NSl.below {w w' : World} {S : Value} {zs : List Int} (h : NSl w S zs) (hb : Below w.heap.size w w') : NSl w' S zs := by
 obtain ⟨A, n, c, e, h1, h2, h3, h4⟩ := h
 exact ⟨A, n, c, e, h1, h2, h3, h4.below hb⟩
end Go.Proofs.YteomfakbbcpckaaGreatDoor
namespace Go.Proofs.YteomfakbbcpckaaGreatDoor
open Go.RowKit
open Lvl
def parF (zs : List Int) (i : Nat) : Nat := match zs[i]? with
 | none => 0
 | some z => min z.toNat 1048576
def rightB (n : Int) (t : Lv) : Bool := decide (0 ≤ n) && decide (n ≤ 4) && decide (nodes t ≤ 64) && okB n t
set_option maxRecDepth 100000 in
set_option maxHeartbeats 2000000 in
theorem refRight_any (t : Lv) (v : Value) (n : Int) (w : World) (hv : LvV w t v) (b : Bool) (hb : rightB n t = b) :
  Calls Tryz.prog 94 #[v, .int .i64 n] w (Ret w (.bool b)) := by
 obtain ⟨s, rfl, hs⟩ := hv
 have HB0 := Lib.hid (below_lit w (.cells #[.int .i64 (kindOf t), .int .i64 (numOf t), s] 48))
 obtain ⟨hx0, hx1, hx2⟩ := box_cells w (.int .i64 (kindOf t)) (.int .i64 (numOf t)) s 48
 have hsz0 : w.heap.size < (w.alloc (.cells #[.int .i64 (kindOf t), .int .i64 (numOf t), s] 48)).heap.size := by simp
 have HV := Lib.hid ((show LvV w t _ from ⟨s, rfl, hs⟩).below HB0.out)
 obtain ⟨R, hR⟩ : ∃ R, min (nodes t) (64 + 1) = R := ⟨_, rfl⟩
 have HR := Lib.hid hR
 have HBB := Lib.hid hb
 clear hs hb hR
 by_cases h0 : 0 ≤ n
 ·have hd0 : decide ((0 : Int) ≤ n) = true := by simp; omega
  by_cases h4 : n ≤ 4
  ·have hd4 : decide (n ≤ (4 : Int)) = true := by simp; omega
   by_cases h64 : R ≤ 64
   ·have hd6 : decide ((R : Int) ≤ 64) = true := by simp; omega
    have HOK : Hid (okB n t = b) := by
     have h1 : nodes t ≤ 64 := by have := HR.out; omega
     rw [← HBB.out]
     unfold rightB
     rw [decide_eq_true h0, decide_eq_true h4, decide_eq_true h1]
     rfl
    go_enter Tryz.func94, Tryz.ntmps94
    go_wp2_with fail
    refine (levelNodes_is t _ 64 _ HV.out (by omega) R HR.out).mono ?_
    rintro e w1 ⟨rfl, hb1⟩
    have HB1 := Lib.hid (HB0.out.trans (hb1.mono HB0.out.size))
    have HV1 := Lib.hid (HV.out.below hb1)
    have hx0' := (hb1.cell (p := ⟨w.heap.size, 0, none⟩) hsz0).trans hx0
    have hx1' := (hb1.cell (p := ⟨w.heap.size, 1, none⟩) hsz0).trans hx1
    have hx2' := (hb1.cell (p := ⟨w.heap.size, 2, none⟩) hsz0).trans hx2
    clear hb1
    go_wp2_with fail
    refine (refRight_up n (nodes t) t _ _ b (Nat.le_refl _) HV1.out HOK.out).mono ?_
    rintro e w2 ⟨rfl, hb2⟩
    have HB2 := Lib.hid (HB1.out.trans (hb2.mono HB1.out.size))
    clear hb2
    go_wp2_with fail
    go_ret
    exact ⟨rfl, HB2.out⟩
   ·have hd6 : decide ((R : Int) ≤ 64) = false := by simp; omega
    obtain rfl : b = false := by
     have h1 : ¬ nodes t ≤ 64 := by have := HR.out; omega
     rw [← HBB.out]
     unfold rightB
     rw [decide_eq_false h1]
     simp
    go_enter Tryz.func94, Tryz.ntmps94
    go_wp2_with fail
    refine (levelNodes_is t _ 64 _ HV.out (by omega) R HR.out).mono ?_
    rintro e w1 ⟨rfl, hb1⟩
    have HB1 := Lib.hid (HB0.out.trans (hb1.mono HB0.out.size))
    clear hb1
    go_wp2_with fail
    go_ret
    exact ⟨rfl, HB1.out⟩
  ·have hd4 : decide (n ≤ (4 : Int)) = false := by simp; omega
   obtain rfl : b = false := by
    rw [← HBB.out]
    unfold rightB
    rw [decide_eq_false h4]
    simp
   go_enter Tryz.func94, Tryz.ntmps94
   go_wp2_with fail
   go_ret
   exact ⟨rfl, HB0.out⟩
 ·have hd0 : decide ((0 : Int) ≤ n) = false := by simp; omega
  obtain rfl : b = false := by
   rw [← HBB.out]
   unfold rightB
   rw [decide_eq_false h0]
   simp
  go_enter Tryz.func94, Tryz.ntmps94
  go_wp2_with fail
  go_ret
  exact ⟨rfl, HB0.out⟩
def ValIs (t : Lv) (zs : List Int) (R : Nat) : Prop := (rightB 4 t = false ∧ R = 0) ∨ (rightB 4 t = true ∧ ∃ x, IsL 4 t x ∧ R = val (parF zs) x)
theorem ValIs.one {t : Lv} {zs : List Int} {R R' : Nat} (h : ValIs t zs R) (h' : ValIs t zs R') : R = R' := by
 rcases h with ⟨h1, h2⟩ | ⟨h1, x, hx, h2⟩ <;> rcases h' with ⟨h1', h2'⟩ | ⟨h1', x', hx', h2'⟩
 ·rw [h2, h2']
 ·rw [h1] at h1'; cases h1'
 ·rw [h1] at h1'; cases h1'
 ·rw [h2, h2', isL_one hx hx']
end Go.Proofs.YteomfakbbcpckaaGreatDoor
namespace Go.Proofs.YteomfakbbcpckaaGreatDoor
open Go.RowKit
open Lvl
set_option maxRecDepth 100000 in
set_option maxHeartbeats 4000000 in
theorem fits_up (m : Int) : ∀ (N : Nat) (t : Lv) (v : Value) (w : World) (b : Bool), nodes t ≤ N → LvV w t v → okB m t = b →
  Calls Tryz.prog 86 #[v, .int .i64 m] w (Ret w (.bool b)) := by
 intro N
 induction N with
 | zero => intro t v w b h _ _; have := nodes_pos t; omega
 | succ N ih =>
 intro t v w b hN hv hb
 obtain ⟨s, rfl, hs⟩ := hv
 cases t with
 | mk k n ts =>
 rw [LvS] at hs
 obtain ⟨A, len, cap, rfl, h1, h2, h2b, h3, h4⟩ := hs
 have IH := Lib.hid ih
 have HS := Lib.hid h4
 have HN := Lib.hid h1
 have HOK := Lib.hid hb
 have HNN : Hid (nodesL ts ≤ N) := by
  rw [nodes] at hN
  have : nodesL ts ≤ N := by omega
  exact this
 clear h4 h1 h3 hN ih hb
 show Calls Tryz.prog 86 #[.agg #[.int .i64 k, .int .i64 n, .slice A len cap], .int .i64 m] w (Ret w (.bool b))
 obtain ⟨hb0, hb1, hb2⟩ := box_cells w (.int .i64 k) (.int .i64 n) (.slice A len cap) 48
 have HB := Lib.hid (below_lit w (.cells #[.int .i64 k, .int .i64 n, .slice A len cap] 48))
 have hsz : w.heap.size < (w.alloc (.cells #[.int .i64 k, .int .i64 n, .slice A len cap] 48)).heap.size := by simp
 by_cases hk1 : k = 1
 ·subst hk1
  have HV : Hid (b = (decide (0 ≤ n) && decide (n ≤ (100 : Int)) && decide (len = 0))) := by
   have := HOK.out
   rw [okB] at this
   simp only [HN.out] at this
   exact this.symm
  clear IH HS HNN HOK
  by_cases hn0 : 0 ≤ n
  ·have hd0 : decide ((0 : Int) ≤ n) = true := by simp; omega
   by_cases hn1 : n ≤ (100 : Int)
   ·have hd1 : decide (n ≤ (100 : Int)) = true := by simp; omega
    by_cases hl : len = 0
    ·subst hl
     obtain rfl : b = true := by rw [HV.out]; simp [*]
     go_enter Tryz.func86, Tryz.ntmps86
     go_wp2_with fail
     go_ret
     exact ⟨rfl, HB.out⟩
    ·have hl0 : ((len : Int) == 0) = false := by simp; omega
     obtain rfl : b = false := by rw [HV.out]; simp [*]
     go_enter Tryz.func86, Tryz.ntmps86
     go_wp2_with fail
     go_ret
     exact ⟨rfl, HB.out⟩
   ·have hd1 : decide (n ≤ (100 : Int)) = false := by simp; omega
    obtain rfl : b = false := by rw [HV.out]; simp [*]
    go_enter Tryz.func86, Tryz.ntmps86
    go_wp2_with fail
    go_ret
    exact ⟨rfl, HB.out⟩
  ·have hd0 : decide ((0 : Int) ≤ n) = false := by simp; omega
   obtain rfl : b = false := by rw [HV.out]; simp [*]
   go_enter Tryz.func86, Tryz.ntmps86
   go_wp2_with fail
   go_ret
   exact ⟨rfl, HB.out⟩
 ·by_cases hk2 : k = 2
  ·subst hk2
   have HV : Hid (b = (decide (0 ≤ n) && decide (n < m) && decide (len = 0))) := by
    have := HOK.out
    rw [okB] at this
    simp only [HN.out] at this
    exact this.symm
   clear IH HS HNN HOK
   by_cases hn0 : 0 ≤ n
   ·have hd0 : decide ((0 : Int) ≤ n) = true := by simp; omega
    by_cases hn1 : n < m
    ·have hd1 : decide (n < m) = true := by simp; omega
     by_cases hl : len = 0
     ·subst hl
      obtain rfl : b = true := by rw [HV.out]; simp [*]
      go_enter Tryz.func86, Tryz.ntmps86
      go_wp2_with fail
      go_ret
      exact ⟨rfl, HB.out⟩
     ·have hl0 : ((len : Int) == 0) = false := by simp; omega
      obtain rfl : b = false := by rw [HV.out]; simp [*]
      go_enter Tryz.func86, Tryz.ntmps86
      go_wp2_with fail
      go_ret
      exact ⟨rfl, HB.out⟩
    ·have hd1 : decide (n < m) = false := by simp; omega
     obtain rfl : b = false := by rw [HV.out]; simp [*]
     go_enter Tryz.func86, Tryz.ntmps86
     go_wp2_with fail
     go_ret
     exact ⟨rfl, HB.out⟩
   ·have hd0 : decide ((0 : Int) ≤ n) = false := by simp; omega
    obtain rfl : b = false := by rw [HV.out]; simp [*]
    go_enter Tryz.func86, Tryz.ntmps86
    go_wp2_with fail
    go_ret
    exact ⟨rfl, HB.out⟩
  ·by_cases hk3 : k = 3
   ·subst hk3
    have HV : Hid (b = (decide (n = 0) && decide (len = 1) && okL m ts)) := by
     have := HOK.out
     rw [okB] at this
     simp only [HN.out] at this
     exact this.symm
    by_cases hn0 : n = 0
    ·subst hn0
     by_cases hl : len = 1
     ·subst hl
      obtain ⟨a, rfl⟩ : ∃ a, ts = [a] := List.length_eq_one_iff.1 HN.out
      have HV2 : Hid (b = okB m a) := by
       show b = okB m a
       rw [HV.out]
       simp [okL]
      obtain ⟨bk, o, s1, rfl, hbs, hc0, hc1, hc2, hls⟩ := lsV_get (lsV_below HB.out _ _ _ HS.out) 0 (by simp)
      have HLS := Lib.hid (show LvV _ a (.agg #[.int .i64 (kindOf a), .int .i64 (numOf a), s1]) from ⟨s1, rfl, hls⟩)
      have HTN : Hid (nodes a ≤ N) := Nat.le_trans (nodes_mem (List.mem_singleton.2 rfl)) HNN.out
      simp only [Nat.zero_mul, Nat.add_zero, List.getElem_cons_zero] at hc0 hc1 hc2
      clear hls HV HOK HS HNN
      go_enter Tryz.func86, Tryz.ntmps86
      go_wp2_with fail
      refine (IH.out a _ _ b HTN.out HLS.out HV2.out.symm).mono ?_
      rintro e w2 ⟨rfl, hb9⟩
      have HB9 := Lib.hid (HB.out.trans (hb9.mono HB.out.size))
      clear hb9
      go_wp2_with fail
      go_ret
      exact ⟨rfl, HB9.out⟩
     ·have hl0 : ((len : Int) == 1) = false := by simp; omega
      clear IH HS HNN HOK
      obtain rfl : b = false := by rw [HV.out]; simp [*]
      go_enter Tryz.func86, Tryz.ntmps86
      go_wp2_with fail
      go_ret
      exact ⟨rfl, HB.out⟩
    ·have hd0 : (n == 0) = false := by simp; omega
     clear IH HS HNN HOK
     obtain rfl : b = false := by rw [HV.out]; simp [*]
     go_enter Tryz.func86, Tryz.ntmps86
     go_wp2_with fail
     go_ret
     exact ⟨rfl, HB.out⟩
   ·by_cases hk4 : k = 4
    ·subst hk4
     have HV : Hid (b = (decide (n = 0) && decide (len = 2) && okL m ts)) := by
      have := HOK.out
      rw [okB] at this
      simp only [HN.out] at this
      exact this.symm
     by_cases hn0 : n = 0
     ·subst hn0
      by_cases hl : len = 2
      ·subst hl
       obtain ⟨a, c, rfl⟩ : ∃ a c, ts = [a, c] := by
        have := HN.out
        match ts, this with
        | [a, c], _ => exact ⟨a, c, rfl⟩
       obtain ⟨ra, hra⟩ : ∃ r, okB m a = r := ⟨_, rfl⟩
       obtain ⟨rc, hrc⟩ : ∃ r, okB m c = r := ⟨_, rfl⟩
       have HRA := Lib.hid hra
       have HRC := Lib.hid hrc
       have HV2 : Hid (b = (ra && rc)) := by
        show b = (ra && rc)
        rw [HV.out]
        simp [okL, hra, hrc]
       have HSB := Lib.hid (lsV_below HB.out _ _ _ HS.out)
       obtain ⟨bk, o, s1, rfl, hbs, hc0, hc1, hc2, hls⟩ := lsV_get HSB.out 0 (by simp)
       obtain ⟨bk', o', s2, e0, _, hd0, hd1, hd2, hls2⟩ := lsV_get HSB.out 1 (by simp)
       cases e0
       have HLS := Lib.hid (show LvV _ a (.agg #[.int .i64 (kindOf a), .int .i64 (numOf a), s1]) from ⟨s1, rfl, hls⟩)
       have HLS2 := Lib.hid (show LvV _ c (.agg #[.int .i64 (kindOf c), .int .i64 (numOf c), s2]) from ⟨s2, rfl, hls2⟩)
       have HTN : Hid (nodes a ≤ N) := Nat.le_trans (nodes_mem (by simp)) HNN.out
       have HTC : Hid (nodes c ≤ N) := Nat.le_trans (nodes_mem (by simp)) HNN.out
       simp only [Nat.zero_mul, Nat.one_mul, Nat.add_zero, List.getElem_cons_zero, List.getElem_cons_succ] at hc0 hc1 hc2 hd0 hd1 hd2
       change World.cell? _ ⟨bk, o + 4, none⟩ = _ at hd1
       change World.cell? _ ⟨bk, o + 5, none⟩ = _ at hd2
       clear hls hls2 HV HOK HS HNN HSB hra hrc
       go_enter Tryz.func86, Tryz.ntmps86
       go_wp2_with fail
       refine (IH.out a _ _ ra HTN.out HLS.out HRA.out).mono ?_
       rintro e w2 ⟨rfl, hb9⟩
       have HB9 := Lib.hid (HB.out.trans (hb9.mono HB.out.size))
       have hx0' := (hb9.cell (p := ⟨w.heap.size, 2, none⟩) hsz).trans hb2
       have hd0' := (hb9.cell (p := ⟨bk, _, none⟩) hbs).trans hd0
       have hd1' := (hb9.cell (p := ⟨bk, _, none⟩) hbs).trans hd1
       have hd2' := (hb9.cell (p := ⟨bk, _, none⟩) hbs).trans hd2
       have HLS2' := Lib.hid (HLS2.out.below hb9)
       clear hb9 hc0 hc1 hc2 hd0 hd1 hd2 HLS HLS2 hb2
       cases ra
       ·have HF : Hid (b = false) := HV2.out
        go_wp2_with fail
        go_ret
        exact ⟨by rw [HF.out]; rfl, HB9.out⟩
       ·have HF : Hid (b = rc) := by
         have := HV2.out
         rw [Bool.true_and] at this
         exact this
        go_wp2_with fail
        refine (IH.out c _ _ rc HTC.out HLS2'.out HRC.out).mono ?_
        rintro e w3 ⟨rfl, hb9⟩
        have HB3 := Lib.hid (HB9.out.trans (hb9.mono HB9.out.size))
        clear hb9
        go_wp2_with fail
        go_ret
        exact ⟨by rw [HF.out]; rfl, HB3.out⟩
      ·have hl0 : ((len : Int) == 2) = false := by simp; omega
       clear IH HS HNN HOK
       obtain rfl : b = false := by rw [HV.out]; simp [*]
       go_enter Tryz.func86, Tryz.ntmps86
       go_wp2_with fail
       go_ret
       exact ⟨rfl, HB.out⟩
     ·have hd0 : (n == 0) = false := by simp; omega
      clear IH HS HNN HOK
      obtain rfl : b = false := by rw [HV.out]; simp [*]
      go_enter Tryz.func86, Tryz.ntmps86
      go_wp2_with fail
      go_ret
      exact ⟨rfl, HB.out⟩
    ·by_cases hk5 : k = 5
     ·subst hk5
      have HV : Hid (b = (decide (n = 0) && decide (len = 2) && okL m ts)) := by
       have := HOK.out
       rw [okB] at this
       simp only [HN.out] at this
       exact this.symm
      by_cases hn0 : n = 0
      ·subst hn0
       by_cases hl : len = 2
       ·subst hl
        obtain ⟨a, c, rfl⟩ : ∃ a c, ts = [a, c] := by
         have := HN.out
         match ts, this with
         | [a, c], _ => exact ⟨a, c, rfl⟩
        obtain ⟨ra, hra⟩ : ∃ r, okB m a = r := ⟨_, rfl⟩
        obtain ⟨rc, hrc⟩ : ∃ r, okB m c = r := ⟨_, rfl⟩
        have HRA := Lib.hid hra
        have HRC := Lib.hid hrc
        have HV2 : Hid (b = (ra && rc)) := by
         show b = (ra && rc)
         rw [HV.out]
         simp [okL, hra, hrc]
        have HSB := Lib.hid (lsV_below HB.out _ _ _ HS.out)
        obtain ⟨bk, o, s1, rfl, hbs, hc0, hc1, hc2, hls⟩ := lsV_get HSB.out 0 (by simp)
        obtain ⟨bk', o', s2, e0, _, hd0, hd1, hd2, hls2⟩ := lsV_get HSB.out 1 (by simp)
        cases e0
        have HLS := Lib.hid (show LvV _ a (.agg #[.int .i64 (kindOf a), .int .i64 (numOf a), s1]) from ⟨s1, rfl, hls⟩)
        have HLS2 := Lib.hid (show LvV _ c (.agg #[.int .i64 (kindOf c), .int .i64 (numOf c), s2]) from ⟨s2, rfl, hls2⟩)
        have HTN : Hid (nodes a ≤ N) := Nat.le_trans (nodes_mem (by simp)) HNN.out
        have HTC : Hid (nodes c ≤ N) := Nat.le_trans (nodes_mem (by simp)) HNN.out
        simp only [Nat.zero_mul, Nat.one_mul, Nat.add_zero, List.getElem_cons_zero, List.getElem_cons_succ] at hc0 hc1 hc2 hd0 hd1 hd2
        change World.cell? _ ⟨bk, o + 4, none⟩ = _ at hd1
        change World.cell? _ ⟨bk, o + 5, none⟩ = _ at hd2
        clear hls hls2 HV HOK HS HNN HSB hra hrc
        go_enter Tryz.func86, Tryz.ntmps86
        go_wp2_with fail
        refine (IH.out a _ _ ra HTN.out HLS.out HRA.out).mono ?_
        rintro e w2 ⟨rfl, hb9⟩
        have HB9 := Lib.hid (HB.out.trans (hb9.mono HB.out.size))
        have hx0' := (hb9.cell (p := ⟨w.heap.size, 2, none⟩) hsz).trans hb2
        have hd0' := (hb9.cell (p := ⟨bk, _, none⟩) hbs).trans hd0
        have hd1' := (hb9.cell (p := ⟨bk, _, none⟩) hbs).trans hd1
        have hd2' := (hb9.cell (p := ⟨bk, _, none⟩) hbs).trans hd2
        have HLS2' := Lib.hid (HLS2.out.below hb9)
        clear hb9 hc0 hc1 hc2 hd0 hd1 hd2 HLS HLS2 hb2
        cases ra
        ·have HF : Hid (b = false) := HV2.out
         go_wp2_with fail
         go_ret
         exact ⟨by rw [HF.out]; rfl, HB9.out⟩
        ·have HF : Hid (b = rc) := by
          have := HV2.out
          rw [Bool.true_and] at this
          exact this
         go_wp2_with fail
         refine (IH.out c _ _ rc HTC.out HLS2'.out HRC.out).mono ?_
         rintro e w3 ⟨rfl, hb9⟩
         have HB3 := Lib.hid (HB9.out.trans (hb9.mono HB9.out.size))
         clear hb9
         go_wp2_with fail
         go_ret
         exact ⟨by rw [HF.out]; rfl, HB3.out⟩
       ·have hl0 : ((len : Int) == 2) = false := by simp; omega
        clear IH HS HNN HOK
        obtain rfl : b = false := by rw [HV.out]; simp [*]
        go_enter Tryz.func86, Tryz.ntmps86
        go_wp2_with fail
        go_ret
        exact ⟨rfl, HB.out⟩
      ·have hd0 : (n == 0) = false := by simp; omega
       clear IH HS HNN HOK
       obtain rfl : b = false := by rw [HV.out]; simp [*]
       go_enter Tryz.func86, Tryz.ntmps86
       go_wp2_with fail
       go_ret
       exact ⟨rfl, HB.out⟩
     ·have hf : b = false := by
       have := HOK.out
       rw [okB, if_neg hk1, if_neg hk2, if_neg hk3, if_neg (by omega)] at this
       exact this.symm
      subst hf
      have e1 : (k == 1) = false := by simp; omega
      have e2 : (k == 2) = false := by simp; omega
      have e3 : (k == 3) = false := by simp; omega
      have e4 : (k == 4) = false := by simp; omega
      have e5 : (k == 5) = false := by simp; omega
      clear IH HS HNN HOK
      go_enter Tryz.func86, Tryz.ntmps86
      go_wp2_with fail
      go_ret
      exact ⟨rfl, HB.out⟩
set_option maxRecDepth 100000 in
set_option maxHeartbeats 2000000 in
theorem right_any (t : Lv) (v : Value) (n : Int) (w : World) (hv : LvV w t v) (hm : nodes t ≤ 100000) (b : Bool) (hb : rightB n t = b) :
  Calls Tryz.prog 58 #[v, .int .i64 n] w (Ret w (.bool b)) := by
 obtain ⟨s, rfl, hs⟩ := hv
 have HLS := Lib.hid (show LvV w t _ from ⟨s, rfl, hs⟩)
 have HM := Lib.hid hm
 obtain ⟨R, hR⟩ : ∃ R, min (nodes t) 65 = R := ⟨_, rfl⟩
 have HR := Lib.hid hR
 obtain ⟨r, hr⟩ : ∃ r, okB n t = r := ⟨_, rfl⟩
 have HOK := Lib.hid hr
 have HV : Hid (b = (decide (0 ≤ n) && decide (n ≤ 4) && decide (R ≤ 64) && r)) := by
  have : b = (decide (0 ≤ n) && decide (n ≤ 4) && decide (R ≤ 64) && r) := by
   rw [← hb, ← hr]
   unfold rightB
   rw [show decide (nodes t ≤ 64) = decide (R ≤ 64) from by simp only [decide_eq_decide]; omega]
  exact this
 generalize kindOf t = k at *
 generalize numOf t = nu at *
 clear hs hm hR hr hb
 obtain ⟨hb0, hb1, hb2⟩ := box_cells w (.int .i64 k) (.int .i64 nu) s 48
 have HB := Lib.hid (below_lit w (.cells #[.int .i64 k, .int .i64 nu, s] 48))
 have hsz : w.heap.size < (w.alloc (.cells #[.int .i64 k, .int .i64 nu, s] 48)).heap.size := by simp
 by_cases hn0 : 0 ≤ n
 ·have hd0 : decide ((0 : Int) ≤ n) = true := by simp; omega
  by_cases hn1 : n ≤ (4 : Int)
  ·have hd1 : decide (n ≤ (4 : Int)) = true := by simp; omega
   have HV2 : Hid (b = (decide (R ≤ 64) && r)) := by
    have : b = (decide (R ≤ 64) && r) := by rw [HV.out]; simp [*]
    exact this
   clear HV
   go_enter Tryz.func58, Tryz.ntmps58
   go_wp2_with fail
   generalize w.alloc (.cells #[.int .i64 k, .int .i64 nu, s] 48) = W at *
   refine (nodes_is t _ W (HLS.out.below HB.out) HM.out R HR.out).mono ?_
   rintro e w2 ⟨rfl, hb9⟩
   have HB9 := Lib.hid (HB.out.trans (hb9.mono HB.out.size))
   have c0 := (hb9.cell (p := ⟨w.heap.size, 0, none⟩) hsz).trans hb0
   have c1 := (hb9.cell (p := ⟨w.heap.size, 1, none⟩) hsz).trans hb1
   have c2 := (hb9.cell (p := ⟨w.heap.size, 2, none⟩) hsz).trans hb2
   clear hb9 hb0 hb1 hb2
   by_cases hR : R ≤ 64
   ·have hd2 : decide ((R : Int) ≤ 64) = true := by simp; omega
    have HF : Hid (b = r) := by
     have : b = r := by rw [HV2.out]; simp [hR]
     exact this
    go_wp2_with fail
    refine (fits_up n (nodes t) t _ w2 r (Nat.le_refl _) (HLS.out.below HB9.out) HOK.out).mono ?_
    rintro e w3 ⟨rfl, hb9⟩
    have HB3 := Lib.hid (HB9.out.trans (hb9.mono HB9.out.size))
    clear hb9
    go_wp2_with fail
    go_ret
    exact ⟨by rw [HF.out]; rfl, HB3.out⟩
   ·have hd2 : decide ((R : Int) ≤ 64) = false := by simp; omega
    have HF : Hid (b = false) := by
     have : b = false := by rw [HV2.out]; simp [hR]
     exact this
    go_wp2_with fail
    go_ret
    exact ⟨by rw [HF.out]; rfl, HB9.out⟩
  ·have hd1 : decide (n ≤ (4 : Int)) = false := by simp; omega
   obtain rfl : b = false := by rw [HV.out]; simp [*]
   go_enter Tryz.func58, Tryz.ntmps58
   go_wp2_with fail
   go_ret
   exact ⟨rfl, HB.out⟩
 ·have hd0 : decide ((0 : Int) ≤ n) = false := by simp; omega
  obtain rfl : b = false := by rw [HV.out]; simp [*]
  go_enter Tryz.func58, Tryz.ntmps58
  go_wp2_with fail
  go_ret
  exact ⟨rfl, HB.out⟩
end Go.Proofs.YteomfakbbcpckaaGreatDoor
