/-
  Plain facts and contracts that the law's proof stands on, joined.
  Conditions: each fact's own.
-/
import Derived.Test.YteomfakbbcpckaaGreatDoorJ03
import Derived.Deep.RegionLaw
import Derived.Test.YteomfakbbcpckaaGreatDoorJ01
import Derived.Test.YteomfakbbcpckaaGreatDoorJ02
namespace Go.Proofs.YteomfakbbcpckaaGreatDoor
open Go.RowKit
open Lvl
def LvRet (w : World) (t : Lv) (e : Ending) (w' : World) : Prop :=
 ∃ s, e = .returned (.agg #[.int .i64 (kindOf t), .int .i64 (numOf t), s]) ∧ LvP w' (fun b => w.heap.size ≤ b) t s ∧ Below w.heap.size w w'
theorem infoLv : (Tryz.prog.info? 48).map (fun i => (i.zero, i.size, i.bytes)) = some (some (.agg #[.int .i64 0, .int .i64 0, .slice none 0 0]), 3, 40) := by kernel_rfl
end Go.Proofs.YteomfakbbcpckaaGreatDoor
namespace Go.Proofs.YteomfakbbcpckaaGreatDoor
open Go.RowKit
open Lvl
namespace Trm
abbrev tkOf : Tm → Int | .mk k _ _ _ _ => k
abbrev tnOf : Tm → Int | .mk _ n _ _ _ => n
abbrev tmOf : Tm → ByteArray | .mk _ _ m _ _ => m
abbrev tlOf : Tm → List Lv | .mk _ _ _ ls _ => ls
abbrev taOf : Tm → List Tm | .mk _ _ _ _ ts => ts
mutual
def TmP (w : World) (P : Nat → Prop) : Tm → Value → Value → Prop
 | .mk _ _ _ ls ts, l, s => LvP w P (.mk 0 0 ls) l ∧ ∃ A len cap, s = .slice A len cap ∧ ts.length = len ∧ len ≤ cap ∧ len ≤ 140737488355328 ∧ (A = none → cap = 0) ∧ TsP w P A 0 ts
def TsP (w : World) (P : Nat → Prop) : Option Addr → Nat → List Tm → Prop
 | _, _, [] => True
 | A, j, a :: ts => (∃ b o l s, A = some ⟨b, o, none⟩ ∧ b < w.heap.size ∧ P b ∧ w.cell? ⟨b, o + j * 5, none⟩ = some (.int .i64 (tkOf a)) ∧ w.cell? ⟨b, o + j * 5 + 1, none⟩ = some (.int .i64 (tnOf a)) ∧ w.cell? ⟨b, o + j * 5 + 2, none⟩ = some (.string (tmOf a)) ∧ w.cell? ⟨b, o + j * 5 + 3, none⟩ = some l ∧ w.cell? ⟨b, o + j * 5 + 4, none⟩ = some s ∧ TmP w P a l s) ∧ TsP w P A (j + 1) ts
end
abbrev tv (t : Tm) (l s : Value) : Value := .agg #[.int .i64 (tkOf t), .int .i64 (tnOf t), .string (tmOf t), l, s]
def TmV (w : World) (t : Tm) (v : Value) : Prop := ∃ l s, v = tv t l s ∧ TmP w (fun _ => True) t l s
mutual
theorem tmP_move {w w' : World} {P Q : Nat → Prop} (hb : ∀ b, b < w.heap.size → P b → Q b ∧ w'.heap[b]? = w.heap[b]?) (hs : w.heap.size ≤ w'.heap.size) : ∀ (t : Tm) (l s : Value), TmP w P t l s → TmP w' Q t l s
 | .mk k n m ls ts, l, s, h => by
  rw [TmP] at h ⊢
  obtain ⟨h0, A, len, cap, e, h1, h2, h3, h4, h5⟩ := h
  exact ⟨lvP_move hb hs _ _ h0, A, len, cap, e, h1, h2, h3, h4, tsP_move hb hs A 0 ts h5⟩
theorem tsP_move {w w' : World} {P Q : Nat → Prop} (hb : ∀ b, b < w.heap.size → P b → Q b ∧ w'.heap[b]? = w.heap[b]?) (hs : w.heap.size ≤ w'.heap.size) : ∀ (A : Option Addr) (j : Nat) (ts : List Tm), TsP w P A j ts → TsP w' Q A j ts
 | _, _, [], _ => by rw [TsP]; trivial
 | A, j, a :: ts, h => by
  rw [TsP] at h ⊢
  obtain ⟨⟨b, o, l, s, e, h1, hp, c0, c1, c2, c3, c4, h5⟩, h6⟩ := h
  obtain ⟨q1, q2⟩ := hb b h1 hp
  exact ⟨⟨b, o, l, s, e, Nat.lt_of_lt_of_le h1 hs, q1, (cell_heap q2).trans c0, (cell_heap q2).trans c1, (cell_heap q2).trans c2, (cell_heap q2).trans c3, (cell_heap q2).trans c4, tmP_move hb hs a l s h5⟩, tsP_move hb hs A (j + 1) ts h6⟩
end
theorem tmP_below {w w' : World} {P : Nat → Prop} (hb : Below w.heap.size w w') {t : Tm} {l s : Value} (h : TmP w P t l s) : TmP w' P t l s :=
 tmP_move (fun b hlt hp => ⟨hp, hb.block b hlt⟩) hb.size t l s h
theorem tsP_below {w w' : World} {P : Nat → Prop} (hb : Below w.heap.size w w') {A : Option Addr} {j : Nat} {ts : List Tm} (h : TsP w P A j ts) : TsP w' P A j ts :=
 tsP_move (fun b hlt hp => ⟨hp, hb.block b hlt⟩) hb.size A j ts h
theorem tmP_weak {w : World} {P Q : Nat → Prop} (hq : ∀ b, P b → Q b) {t : Tm} {l s : Value} (h : TmP w P t l s) : TmP w Q t l s :=
 tmP_move (fun b _ hp => ⟨hq b hp, rfl⟩) (Nat.le_refl _) t l s h
theorem TmV.below {w w' : World} {t : Tm} {v : Value} (h : TmV w t v) (hb : Below w.heap.size w w') : TmV w' t v := by
 obtain ⟨l, s, e, h1⟩ := h
 exact ⟨l, s, e, tmP_below hb h1⟩
theorem tsP_at {w : World} {P : Nat → Prop} : ∀ {A : Option Addr} {ts : List Tm} {j : Nat}, TsP w P A j ts → ∀ i (h : i < ts.length), ∃ b o l s, A = some ⟨b, o, none⟩ ∧ b < w.heap.size ∧ P b ∧ w.cell? ⟨b, o + (j + i) * 5, none⟩ = some (.int .i64 (tkOf ts[i])) ∧ w.cell? ⟨b, o + (j + i) * 5 + 1, none⟩ = some (.int .i64 (tnOf ts[i])) ∧ w.cell? ⟨b, o + (j + i) * 5 + 2, none⟩ = some (.string (tmOf ts[i])) ∧ w.cell? ⟨b, o + (j + i) * 5 + 3, none⟩ = some l ∧ w.cell? ⟨b, o + (j + i) * 5 + 4, none⟩ = some s ∧ TmP w P ts[i] l s
 | A, a :: ts, j, h, 0, _ => by
  rw [TsP] at h
  exact h.1
 | A, a :: ts, j, h, i + 1, hi => by
  rw [TsP] at h
  have := tsP_at h.2 i (by simpa using hi)
  rw [show j + 1 + i = j + (i + 1) by omega] at this
  exact this
theorem tsP_get {w : World} {P : Nat → Prop} {A : Option Addr} {ts : List Tm} (h : TsP w P A 0 ts) (i : Nat) (hi : i < ts.length) : ∃ b o l s, A = some ⟨b, o, none⟩ ∧ b < w.heap.size ∧ P b ∧ w.cell? ⟨b, o + i * 5, none⟩ = some (.int .i64 (tkOf ts[i])) ∧ w.cell? ⟨b, o + i * 5 + 1, none⟩ = some (.int .i64 (tnOf ts[i])) ∧ w.cell? ⟨b, o + i * 5 + 2, none⟩ = some (.string (tmOf ts[i])) ∧ w.cell? ⟨b, o + i * 5 + 3, none⟩ = some l ∧ w.cell? ⟨b, o + i * 5 + 4, none⟩ = some s ∧ TmP w P ts[i] l s := by
 have := tsP_at h i hi
 rw [Nat.zero_add] at this
 exact this
theorem tsP_of {w : World} {P : Nat → Prop} {A : Option Addr} : ∀ (ts : List Tm) (j : Nat), (∀ i (h : i < ts.length), ∃ b o l s, A = some ⟨b, o, none⟩ ∧ b < w.heap.size ∧ P b ∧ w.cell? ⟨b, o + (j + i) * 5, none⟩ = some (.int .i64 (tkOf ts[i])) ∧ w.cell? ⟨b, o + (j + i) * 5 + 1, none⟩ = some (.int .i64 (tnOf ts[i])) ∧ w.cell? ⟨b, o + (j + i) * 5 + 2, none⟩ = some (.string (tmOf ts[i])) ∧ w.cell? ⟨b, o + (j + i) * 5 + 3, none⟩ = some l ∧ w.cell? ⟨b, o + (j + i) * 5 + 4, none⟩ = some s ∧ TmP w P ts[i] l s) → TsP w P A j ts
 | [], _, _ => by rw [TsP]; trivial
 | a :: ts, j, h => by
  rw [TsP]
  refine ⟨h 0 (by simp), tsP_of ts (j + 1) fun i hi => ?_⟩
  have := h (i + 1) (by simpa using hi)
  rw [show j + (i + 1) = j + 1 + i by omega] at this
  exact this
mutual
theorem lvP_true {w : World} : ∀ (t : Lv) (s : Value), LvS w t s → LvP w (fun _ => True) t s
 | .mk k n ts, s, h => by
  rw [LvS] at h
  rw [LvP]
  obtain ⟨A, len, cap, e, h1, h2, h3, h4, h5⟩ := h
  exact ⟨A, len, cap, e, h1, h2, h3, h4, lsP_true A 0 ts h5⟩
theorem lsP_true {w : World} : ∀ (A : Option Addr) (j : Nat) (ts : List Lv), LsV w A j ts → LsP w (fun _ => True) A j ts
 | _, _, [], _ => by rw [LsP]; trivial
 | A, j, a :: ts, h => by
  rw [LsV] at h
  rw [LsP]
  obtain ⟨⟨b, o, s, e, h1, h2, h3, h4, h5⟩, h6⟩ := h
  exact ⟨⟨b, o, s, e, h1, trivial, h2, h3, h4, lvP_true a s h5⟩, lsP_true A (j + 1) ts h6⟩
end
theorem tmP_slices {w : World} {P : Nat → Prop} {t : Tm} {l s : Value} (h : TmP w P t l s) : (∃ a n c, l = .slice a n c) ∧ ∃ a n c, s = .slice a n c := by
 cases t with
 | mk k n m ls ts =>
 rw [TmP, LvP] at h
 obtain ⟨⟨A, len, cap, rfl, _⟩, A', len', cap', rfl, _⟩ := h
 exact ⟨⟨_, _, _, rfl⟩, _, _, _, rfl⟩
theorem tnodesL_append : ∀ (l k : List Tm), tnodesL (l ++ k) = tnodesL l + tnodesL k
 | [], k => by rw [List.nil_append, tnodesL]; omega
 | a :: l, k => by rw [List.cons_append, tnodesL, tnodesL, tnodesL_append l k]; omega
theorem tnodesL_take {ts : List Tm} {j : Nat} (h : j < ts.length) : tnodesL (ts.take (j + 1)) = tnodesL (ts.take j) + tnodes ts[j] := by
 rw [List.take_add_one, List.getElem?_eq_getElem h, tnodesL_append]
 simp [tnodesL]
theorem tnodesL_le (ts : List Tm) (j : Nat) : tnodesL (ts.take j) ≤ tnodesL ts := by
 have := tnodesL_append (ts.take j) (ts.drop j)
 rw [List.take_append_drop] at this
 omega
theorem tnodes_mem {t : Tm} : ∀ {l : List Tm}, t ∈ l → tnodes t ≤ tnodesL l
 | a :: l, h => by
  rw [tnodesL]
  rcases List.mem_cons.1 h with rfl | h
  ·omega
  ·have := tnodes_mem h
   omega
theorem tlen_nodes : ∀ ts : List Tm, ts.length ≤ tnodesL ts
 | [] => Nat.zero_le _
 | a :: ts => by
  have := tnodes_pos a
  have := tlen_nodes ts
  rw [tnodesL, List.length_cons]
  omega
abbrev tbox (k n : Int) (m : ByteArray) (l s : Value) : Obj := .cells #[.int .i64 k, .int .i64 n, .string m, l, s] 25
theorem five_cells {w : World} {b : Nat} {x0 x1 x2 x3 x4 : Value} {T : TypeId} (h : w.heap[b]? = some (.cells #[x0, x1, x2, x3, x4] T (0, 0))) : w.cell? ⟨b, 0, none⟩ = some x0 ∧ w.cell? ⟨b, 1, none⟩ = some x1 ∧ w.cell? ⟨b, 2, none⟩ = some x2 ∧ w.cell? ⟨b, 3, none⟩ = some x3 ∧ w.cell? ⟨b, 4, none⟩ = some x4 :=
 ⟨cell_of_row _ _ 0 _ T (0, 0) h, cell_of_row _ _ 1 _ T (0, 0) h, cell_of_row _ _ 2 _ T (0, 0) h, cell_of_row _ _ 3 _ T (0, 0) h, cell_of_row _ _ 4 _ T (0, 0) h⟩
theorem set5_row {w : World} {b : Nat} {x0 x1 x2 x3 x4 y0 y1 y2 y3 y4 : Value} {T : TypeId} (h : w.heap[b]? = some (.cells #[x0, x1, x2, x3, x4] T (0, 0))) : (((((w.setCell ⟨b, 0, none⟩ y0).setCell ⟨b, 1, none⟩ y1).setCell ⟨b, 2, none⟩ y2).setCell ⟨b, 3, none⟩ y3).setCell ⟨b, 4, none⟩ y4).heap[b]? = some (.cells #[y0, y1, y2, y3, y4] T (0, 0)) := by
 unfold World.setCell
 simp [Array.getElem?_modify, h]
theorem infoTm : (Tryz.prog.info? 25).map (fun i => (i.zero, i.size, i.bytes)) = some (some (.agg #[.int .i64 0, .int .i64 0, .string ⟨#[]⟩, .slice none 0 0, .slice none 0 0]), 5, 80) := by kernel_rfl
def TmRet (w : World) (t : Tm) (e : Ending) (w' : World) : Prop :=
 ∃ l s, e = .returned (tv t l s) ∧ TmP w' (fun b => w.heap.size ≤ b) t l s ∧ Below w.heap.size w w'
def cells5 : List Tm → List (Value × Value) → List Value
 | a :: ts, s :: ss => .int .i64 (tkOf a) :: .int .i64 (tnOf a) :: .string (tmOf a) :: s.1 :: s.2 :: cells5 ts ss
 | _, _ => []
theorem cells5_get : ∀ (ts : List Tm) (ss : List (Value × Value)) (i : Nat) (h1 : i < ts.length) (h2 : i < ss.length), (cells5 ts ss)[i * 5]? = some (.int .i64 (tkOf ts[i])) ∧ (cells5 ts ss)[i * 5 + 1]? = some (.int .i64 (tnOf ts[i])) ∧ (cells5 ts ss)[i * 5 + 2]? = some (.string (tmOf ts[i])) ∧ (cells5 ts ss)[i * 5 + 3]? = some ss[i].1 ∧ (cells5 ts ss)[i * 5 + 4]? = some ss[i].2
 | a :: ts, s :: ss, 0, _, _ => ⟨rfl, rfl, rfl, rfl, rfl⟩
 | a :: ts, s :: ss, i + 1, h1, h2 => by
  have := cells5_get ts ss i (by simpa using h1) (by simpa using h2)
  rw [cells5, show (i + 1) * 5 = i * 5 + 5 by omega]
  exact this
def OwnT (w : World) (base : Nat) (V : Value) (ts : List Tm) : Prop :=
 ∃ ss : List (Value × Value), ts.length = ss.length ∧ w.ownsRow base 25 5 V ts.length (cells5 ts ss) ∧ ∀ i (h1 : i < ts.length) (h2 : i < ss.length), TmP w (fun b => base ≤ b ∧ V.ownBlock ≠ some b) ts[i] ss[i].1 ss[i].2
theorem five_oneCell {x y : Int} {m : ByteArray} {l s : Value} (hl : l.oneCell' = true) (hs : s.oneCell' = true) : ∀ u ∈ [Value.int .i64 x, Value.int .i64 y, .string m, l, s], u.oneCell' = true := by
 intro u hu
 simp at hu
 rcases hu with rfl | rfl | rfl | rfl | rfl
 ·rfl
 ·rfl
 ·rfl
 ·exact hl
 ·exact hs
theorem ownT_tsP {w : World} {base : Nat} {V : Value} {ts : List Tm} (h : OwnT w base V ts) : ∃ A len cap, V = .slice A len cap ∧ ts.length = len ∧ len ≤ cap ∧ (A = none → cap = 0) ∧ TsP w (fun b => base ≤ b) A 0 ts := by
 obtain ⟨ss, hls, ho, hk⟩ := h
 rcases ho.2 with ⟨rfl, h0⟩ | ⟨g, cap, cur, rfl, hbg, hg, hn, hm, hs, ht⟩
 ·have : ts = [] := List.length_eq_zero_iff.1 h0
  subst this
  exact ⟨none, 0, 0, rfl, rfl, Nat.le_refl _, fun _ => rfl, by rw [TsP]; trivial⟩
 ·refine ⟨some ⟨g, 0, none⟩, ts.length, cap, rfl, rfl, hn, (fun e => by cases e), tsP_of ts 0 fun i hi => ?_⟩
  obtain ⟨c0, c1, c2, c3, c4⟩ := cells5_get ts ss i hi (by omega)
  refine ⟨g, 0, ss[i].1, ss[i].2, rfl, (ho.lt g rfl).2, hbg, ?_, ?_, ?_, ?_, ?_, ?_⟩
  ·rw [Nat.zero_add, Nat.zero_add, ho.cellAt (i * 5) (by omega)]; exact c0
  ·rw [Nat.zero_add, Nat.zero_add, ho.cellAt (i * 5 + 1) (by omega)]; exact c1
  ·rw [Nat.zero_add, Nat.zero_add, ho.cellAt (i * 5 + 2) (by omega)]; exact c2
  ·rw [Nat.zero_add, Nat.zero_add, ho.cellAt (i * 5 + 3) (by omega)]; exact c3
  ·rw [Nat.zero_add, Nat.zero_add, ho.cellAt (i * 5 + 4) (by omega)]; exact c4
  ·exact tmP_weak (fun b hp => hp.1) (hk i hi (by omega))
end Trm
end Go.Proofs.YteomfakbbcpckaaGreatDoor
namespace Go.Proofs.YteomfakbbcpckaaGreatDoor
open Go.RowKit
open Lvl
set_option maxRecDepth 100000 in
set_option maxHeartbeats 1000000 in
theorem levelNodesT_up (most : Nat) (hm : most ≤ 100000) : ∀ (N : Nat) (t : Lv) (v : Value) (w : World), nodes t ≤ N → LvV w t v →
  Calls Tryz.prog 28 #[v, .int .i64 most] w (Ret w (.int .i64 (min (nodes t) (most + 1) : Nat))) := by
 intro N
 induction N with
 | zero => intro t v w h _; have := nodes_pos t; omega
 | succ N ih =>
 intro t v w hN hv
 obtain ⟨s, rfl, hs⟩ := hv
 cases t with
 | mk k n ts =>
 rw [LvS] at hs
 obtain ⟨A, len, cap, rfl, h1, h2, h2b, h3, h4⟩ := hs
 have IH := Lib.hid ih
 have HS := Lib.hid h4
 have HN := Lib.hid h1
 have HNN : Hid (nodesL ts ≤ N) := by
  rw [nodes] at hN
  have : nodesL ts ≤ N := by omega
  exact this
 obtain ⟨R, hR⟩ : ∃ R, min (nodes (.mk k n ts)) (most + 1) = R := ⟨_, rfl⟩
 have HR : Hid (min (1 + nodesL ts) (most + 1) = R) := by rw [nodes] at hR; exact hR
 rw [hR]
 clear h4 h1 h3 hN hR ih
 go_enter Tryz.func28, Tryz.ntmps28
 go_wp2_with fail
 obtain ⟨_, _, hbox⟩ := box_cells w (.int .i64 (kindOf (Lv.mk k n ts))) (.int .i64 (numOf (Lv.mk k n ts))) (.slice A len cap) 48
 have HB := Lib.hid (below_lit w (.cells #[.int .i64 (kindOf (Lv.mk k n ts)), .int .i64 (numOf (Lv.mk k n ts)), .slice A len cap] 48))
 have hsz : w.heap.size < (w.alloc (.cells #[.int .i64 (kindOf (Lv.mk k n ts)), .int .i64 (numOf (Lv.mk k n ts)), .slice A len cap] 48)).heap.size := by simp
 generalize w.alloc (.cells #[.int .i64 (kindOf (Lv.mk k n ts)), .int .i64 (numOf (Lv.mk k n ts)), .slice A len cap] 48) = W at *
 have HBX := Lib.hid hbox
 clear hbox
 go_loopw [5, 6] (fun c i wr => ∃ j acc : Nat, j ≤ len ∧ i = .int .i64 j ∧ c = .int .i64 acc ∧ Hid (CntTo most j acc ts) ∧ acc ≤ 2 * most + 2 ∧ Below W.heap.size W wr) (fun _ i _ => len - (intOf i).toNat)
 case atStart => exact ⟨0, 1, Nat.zero_le _, rfl, rfl, ⟨by simp [nodesL], by omega⟩, by omega, Below.refl _ _⟩
 case round =>
  obtain ⟨j, acc, hj, rfl, rfl, hc, ha, hb⟩ := hrel
  have HBW := Lib.hid hb
  have hbox := (hb.cell (p := ⟨w.heap.size, 2, none⟩) hsz).trans HBX.out
  have hsz2 : w.heap.size < wr.heap.size := Nat.lt_of_lt_of_le hsz hb.size
  have HSW := Lib.hid (lsV_below (HB.out.trans (hb.mono HB.out.size)) _ _ _ HS.out)
  clear hb
  by_cases hlt : j < len
  ·have hx1 : j < ts.length := by rw [HN.out]; exact hlt
   have hln : decide ((j : Int) < (len : Int)) = true := by simp; omega
   by_cases hmo : acc ≤ most
   ·have hd : decide ((acc : Int) ≤ (most : Int)) = true := by simp; omega
    obtain ⟨b, o, s, rfl, hb, hc0, hc1, hc2, hls⟩ := lsV_get HSW.out j hx1
    have hlt2 := Nat.lt_of_lt_of_le hb (Nat.le_refl _)
    have HLS : Hid (LvV wr ts[j] (.agg #[.int .i64 (kindOf ts[j]), .int .i64 (numOf ts[j]), s])) := ⟨s, rfl, hls⟩
    have HTN : Hid (nodes ts[j] ≤ N) := Nat.le_trans (nodes_mem (List.getElem_mem hx1)) HNN.out
    have HNT := Lib.hid (nodesL_take hx1)
    generalize kindOf ts[j] = ki at *
    generalize numOf ts[j] = nu at *
    generalize ts[j] = tj at *
    clear hls hlt2
    go_wp2_with fail
    refine (IH.out tj _ wr HTN.out HLS.out).mono ?_
    rintro e w2 ⟨rfl, hb2⟩
    obtain ⟨q, hq⟩ : ∃ q, min (nodes tj) (most + 1) = q := ⟨_, rfl⟩
    have hq2 : q ≤ most + 1 := by omega
    have HC2 : Hid (CntTo most (j + 1) (acc + q) ts) := by
     obtain ⟨h1, h2⟩ := hc.out
     refine ⟨?_, by omega⟩
     rw [HNT.out, ← hq]
     omega
    have HBW2 := Lib.hid (HBW.out.trans (hb2.mono HBW.out.size))
    rw [hq]
    clear hb2 hq HNT HTN HLS
    go_wp2_with fail
    go_roundw
    case rel => exact ⟨j + 1, acc + q, by omega, by go_num, by go_num, HC2, by omega, HBW2.out⟩
    case measure => simp [intOf]; omega
   ·have hd : decide ((acc : Int) ≤ (most : Int)) = false := by simp; omega
    have HF : Hid (R = most + 1) := by
     obtain ⟨h1, _⟩ := hc.out
     have h2 := nodesL_le ts j
     have h3 := HR.out
     have : R = most + 1 := by omega
     exact this
    by_cases hmo1 : acc = most + 1
    ·have HF2 : Hid (R = acc) := HF.out.trans hmo1.symm
     have hmi : (acc : Int) ≤ (most : Int) + 1 := by omega
     clear hmo1
     go_wp2_with fail
     go_ret
     exact ⟨by rw [HF2.out]; rfl, HB.out.trans (HBW.out.mono HB.out.size)⟩
    ·have hmi : (most : Int) + 1 < (acc : Int) := by omega
     go_wp2_with fail
     go_ret
     exact ⟨by rw [HF.out]; rfl, HB.out.trans (HBW.out.mono HB.out.size)⟩
  ·have hln : decide ((j : Int) < (len : Int)) = false := by simp; omega
   have HF : Hid (R = min acc (most + 1)) := by
    obtain ⟨h1, _⟩ := hc.out
    rw [List.take_of_length_le (by rw [HN.out]; omega)] at h1
    have h3 := HR.out
    have : R = min acc (most + 1) := by omega
    exact this
   by_cases hmo : acc ≤ most + 1
   ·have hmi : (acc : Int) ≤ (most : Int) + 1 := by omega
    have HF2 : Hid (R = acc) := by
     have := HF.out
     have : R = acc := by omega
     exact this
    go_wp2_with fail
    go_ret
    exact ⟨by rw [HF2.out]; rfl, HB.out.trans (HBW.out.mono HB.out.size)⟩
   ·have hmi : (most : Int) + 1 < (acc : Int) := by omega
    have HF2 : Hid (R = most + 1) := by
     have := HF.out
     have : R = most + 1 := by omega
     exact this
    go_wp2_with fail
    go_ret
    exact ⟨by rw [HF2.out]; rfl, HB.out.trans (HBW.out.mono HB.out.size)⟩
theorem levelNodesT_is (t : Lv) (v : Value) (most : Nat) (w : World) (hv : LvV w t v) (hm : most ≤ 100000) (R : Nat) (hR : min (nodes t) (most + 1) = R) :
  Calls Tryz.prog 28 #[v, .int .i64 most] w (Ret w (.int .i64 R)) := by
 subst hR
 exact levelNodesT_up most hm (nodes t) t v w (Nat.le_refl _) hv
namespace Trm
mutual
def rn : Tm → Nat
 | .mk _ _ m ls ts => 1 + m.size / 16 + nodesL ls + rnL ts
def rnL : List Tm → Nat
 | [] => 0
 | a :: ts => rn a + rnL ts
end
mutual
def nmOk : Tm → Prop
 | .mk _ _ m _ ts => m.size ≤ 140737488355328 ∧ nmOkL ts
def nmOkL : List Tm → Prop
 | [] => True
 | a :: ts => nmOk a ∧ nmOkL ts
end
theorem nmOkL_mem {a : Tm} : ∀ {ts : List Tm}, nmOkL ts → a ∈ ts → nmOk a
 | b :: ts, h, hm => by
  rw [nmOkL] at h
  rcases List.mem_cons.1 hm with rfl | hm
  ·exact h.1
  ·exact nmOkL_mem h.2 hm
theorem rnL_append : ∀ (l k : List Tm), rnL (l ++ k) = rnL l + rnL k
 | [], k => by rw [List.nil_append, rnL]; omega
 | a :: l, k => by rw [List.cons_append, rnL, rnL, rnL_append l k]; omega
theorem rnL_take {ts : List Tm} {j : Nat} (h : j < ts.length) : rnL (ts.take (j + 1)) = rnL (ts.take j) + rn ts[j] := by
 rw [List.take_add_one, List.getElem?_eq_getElem h, rnL_append]
 simp [rnL]
theorem rnL_le (ts : List Tm) (j : Nat) : rnL (ts.take j) ≤ rnL ts := by
 have := rnL_append (ts.take j) (ts.drop j)
 rw [List.take_append_drop] at this
 omega
theorem name_part {s M : Nat} (hM : M = s / 16) (hs : s ≤ 140737488355328) : M ≤ 8796093022208 := by
 rw [hM]
 exact Nat.le_trans (Nat.div_le_div_right hs) (by decide)
theorem name_wrap {s M : Nat} (hM : M = s / 16) (hs : s ≤ 140737488355328) : wrap64 (1 + wrap64 ((s : Int) / 16)) = ((1 + M : Nat) : Int) := by
 have h0 := name_part hM hs
 have h1 : (s : Int) / 16 = (M : Int) := by
  rw [hM]
  rfl
 clear hM hs
 rw [h1, IntWalk.wrap64_in (M : Int) ⟨by omega, by omega⟩, IntWalk.wrap64_in (1 + (M : Int)) ⟨by omega, by omega⟩]
 exact (Int.natCast_add 1 M).symm
def RCnt (most acc n : Nat) : Prop := min acc (most + 1) = min n (most + 1)
set_option maxRecDepth 100000 in
set_option maxHeartbeats 4000000 in
theorem rnodes_up (most : Nat) (hm : most ≤ 100000) : ∀ (N : Nat) (t : Tm) (v : Value) (w : World), tnodes t ≤ N → nmOk t → TmV w t v →
  Calls Tryz.prog 34 #[v, .int .i64 most] w (Ret w (.int .i64 (min (rn t) (most + 1) : Nat))) := by
 intro N
 induction N with
 | zero => intro t v w h _; have := tnodes_pos t; omega
 | succ N ih =>
 intro t v w hN hnm hv
 obtain ⟨l, s, rfl, ht⟩ := hv
 obtain ⟨⟨la, ll, lc, rfl⟩, sa, sl, sc, rfl⟩ := tmP_slices ht
 cases t with
 | mk k n m ls ts =>
 rw [TmP] at ht
 obtain ⟨hlv, A', len', cap', e9, hlen, hlc', hl47, hnone, hts⟩ := ht
 cases e9
 have h2 := lvS_of _ _ hlv
 rw [LvS] at h2
 obtain ⟨C, lcn, cc, e8, hll, _, hll47, _, hls⟩ := h2
 cases e8
 rw [nmOk] at hnm
 rw [tnodes] at hN
 have IH := Lib.hid ih
 have HTS := Lib.hid hts
 have HLS := Lib.hid hls
 have HLEN := Lib.hid hlen
 have HLL := Lib.hid hll
 have HNM := Lib.hid hnm.2
 have hms := hnm.1
 have HTN : Hid (tnodesL ts ≤ N) := by
  have : tnodesL ts ≤ N := by omega
  exact this
 obtain ⟨R, hR⟩ : ∃ R, min (rn (.mk k n m ls ts)) (most + 1) = R := ⟨_, rfl⟩
 rw [hR]
 rw [rn] at hR
 have HR := Lib.hid hR
 obtain ⟨M, hM⟩ : ∃ M, M = m.size / 16 := ⟨_, rfl⟩
 have hMl : M ≤ 8796093022208 := name_part hM hms
 have hwr : wrap64 (1 + wrap64 ((m.size : Int) / 16)) = ((1 + M : Nat) : Int) := name_wrap hM hms
 have HM' := Lib.hid hM
 clear hms hM
 show Calls _ _ #[.agg #[.int .i64 k, .int .i64 n, .string m, .slice la ll lc, .slice sa sl sc], .int .i64 most] w _
 clear ih hts hls hlen hll hlv hnm hN hR hnone hlc'
 go_enter Tryz.func34, Tryz.ntmps34
 go_wp2_with fail
 have z1 : (w.alloc (.cells #[.int .i64 k, .int .i64 n, .string m, .slice la ll lc, .slice sa sl sc] 25)).heap.size = w.heap.size + 1 := by simp
 have r0 : (w.alloc (.cells #[.int .i64 k, .int .i64 n, .string m, .slice la ll lc, .slice sa sl sc] 25)).heap[w.heap.size]? = some (Obj.cells #[.int .i64 k, .int .i64 n, .string m, .slice la ll lc, .slice sa sl sc] 25 (0, 0)) := by
  have := heap_alloc_new w (.cells #[.int .i64 k, .int .i64 n, .string m, .slice la ll lc, .slice sa sl sc] 25)
  exact this
 have HB := Lib.hid (below_lit w (.cells #[.int .i64 k, .int .i64 n, .string m, .slice la ll lc, .slice sa sl sc] 25))
 have HR0 := Lib.hid (r0)
 clear r0
 try generalize (w.alloc (.cells #[.int .i64 k, .int .i64 n, .string m, .slice la ll lc, .slice sa sl sc] 25)) = W at *
 have HZ := Lib.hid z1
 clear z1
 try rw [hwr]
 have hsz1 := HZ.out
 have hw0 : w.heap.size < W.heap.size := by omega
 go_loopw [5, 6] (fun c i wr => ∃ j acc : Nat, j ≤ ll ∧ i = .int .i64 j ∧ c = .int .i64 acc ∧ Hid (RCnt most acc (1 + m.size / 16 + nodesL (ls.take j))) ∧ acc ≤ 8796093022208 + 2 + 2 * most ∧ Hid (Below W.heap.size W wr)) (fun _ i _ => ll - (intOf i).toNat)
 case atStart =>
  have h0 : RCnt most (1 + M) (1 + m.size / 16 + nodesL (ls.take 0)) := by
   rw [HM'.out, List.take_zero, nodesL]
   rfl
  exact ⟨0, 1 + M, Nat.zero_le _, rfl, rfl, h0, by omega, Below.refl _ _⟩
 case round =>
  obtain ⟨j, acc, hj, rfl, rfl, hc, ha, hb⟩ := hrel
  have HBW := hb
  obtain ⟨a0, a1, a2, a3, a4⟩ := five_cells ((hb.out.block w.heap.size hw0).trans HR0.out)
  by_cases hlt : j < ll
  ·have hx1 : j < ls.length := by rw [HLL.out]; exact hlt
   have hln : decide ((j : Int) < (ll : Int)) = true := by simp; omega
   by_cases hmo : acc ≤ most
   ·have hd : decide ((acc : Int) ≤ (most : Int)) = true := by simp; omega
    obtain ⟨b, o, s, eA, hbs, hc0, hc1, hc2, hls⟩ := lsV_get HLS.out j hx1
    subst eA
    have hBw := HB.out.trans (hb.out.mono HB.out.size)
    have d0 := (hBw.cell (p := ⟨b, _, none⟩) hbs).trans hc0
    have d1 := (hBw.cell (p := ⟨b, _, none⟩) hbs).trans hc1
    have d2 := (hBw.cell (p := ⟨b, _, none⟩) hbs).trans hc2
    obtain ⟨q, hq⟩ : ∃ q, min (nodes ls[j]) (most + 1) = q := ⟨_, rfl⟩
    have HCALL := Lib.hid (levelNodesT_is ls[j] (.agg #[.int .i64 (kindOf ls[j]), .int .i64 (numOf ls[j]), s]) most wr ⟨s, rfl, lvS_below hBw _ _ hls⟩ hm q hq)
    have HNT := Lib.hid (nodesL_take hx1)
    have HC2 : Hid (RCnt most (acc + q) (1 + m.size / 16 + nodesL (ls.take (j + 1)))) := by
     have h1 := hc.out
     have : RCnt most (acc + q) (1 + m.size / 16 + nodesL (ls.take (j + 1))) := by
      unfold RCnt at h1 ⊢
      rw [HNT.out, ← hq]
      omega
     exact this
    have hq2 : q ≤ most + 1 := by omega
    have q1 : (0 : Int) ≤ (j : Int) := by omega
    have q2 : (j : Int) < (ll : Int) := by omega
    generalize kindOf ls[j] = ka at *
    generalize numOf ls[j] = na at *
    clear hc0 hc1 hc2 hls hq HNT hBw
    go_wp2_with fail
    refine HCALL.out.mono ?_
    rintro e w2 ⟨rfl, hb2⟩
    have HBW2 := Lib.hid (HBW.out.trans (hb2.mono HBW.out.size))
    clear hb2
    go_wp2_with fail
    go_roundw
    case rel => exact ⟨_, _, _, _, _, _, _, _, _, _, _, _, _, _, _, _, _, _, _, _, _, _, _, ⟨j + 1, acc + q, by omega, by go_num, by go_num, HC2, by omega, HBW2.out⟩, rfl⟩
    case measure => simp [intOf]; omega
   ·have hd : decide ((acc : Int) ≤ (most : Int)) = false := by simp; omega
    have HC0 : Hid (RCnt most acc (1 + m.size / 16 + nodesL ls + rnL (ts.take 0))) := by
     have h1 := hc.out
     have h2 := nodesL_le ls j
     have : RCnt most acc (1 + m.size / 16 + nodesL ls + rnL (ts.take 0)) := by
      unfold RCnt at h1 ⊢
      omega
     exact this
    go_wp2_with fail
    generalize wr = Wq at *
    go_loopw [5, 7] (fun c i wr => ∃ j acc : Nat, j ≤ sl ∧ i = .int .i64 j ∧ c = .int .i64 acc ∧ Hid (RCnt most acc (1 + m.size / 16 + nodesL ls + rnL (ts.take j))) ∧ acc ≤ 8796093022208 + 2 + 4 * most ∧ Hid (Below W.heap.size W wr)) (fun _ i _ => sl - (intOf i).toNat)
    case atStart => exact ⟨0, acc, Nat.zero_le _, rfl, rfl, HC0.out, by omega, HBW.out⟩
    case round =>
     obtain ⟨j, acc, hj, rfl, rfl, hc, ha, hb⟩ := hrel
     have HBW := hb
     obtain ⟨a0, a1, a2, a3, a4⟩ := five_cells ((hb.out.block w.heap.size (by omega)).trans HR0.out)
     by_cases hlt : j < sl
     ·have hx1 : j < ts.length := by rw [HLEN.out]; exact hlt
      have hln : decide ((j : Int) < (sl : Int)) = true := by simp; omega
      by_cases hmo : acc ≤ most
      ·have hd : decide ((acc : Int) ≤ (most : Int)) = true := by simp; omega
       obtain ⟨bk, o, l1, s1, eA, hbs, _, hc0, hc1, hc2, hc3, hc4, htm⟩ := tsP_get HTS.out j hx1
       subst eA
       obtain ⟨⟨xa, xl, xc, rfl⟩, ya, yl, yc, rfl⟩ := tmP_slices htm
       have hBw := HB.out.trans (hb.out.mono HB.out.size)
       have d0 := (hBw.cell (p := ⟨bk, _, none⟩) hbs).trans hc0
       have d1 := (hBw.cell (p := ⟨bk, _, none⟩) hbs).trans hc1
       have d2 := (hBw.cell (p := ⟨bk, _, none⟩) hbs).trans hc2
       have d3 := (hBw.cell (p := ⟨bk, _, none⟩) hbs).trans hc3
       have d4 := (hBw.cell (p := ⟨bk, _, none⟩) hbs).trans hc4
       have hcall := IH.out ts[j] (tv ts[j] (.slice xa xl xc) (.slice ya yl yc)) wr (Nat.le_trans (tnodes_mem (List.getElem_mem hx1)) HTN.out) (nmOkL_mem HNM.out (List.getElem_mem hx1)) ⟨_, _, rfl, tmP_below hBw htm⟩
       have HNT := Lib.hid (rnL_take hx1)
       obtain ⟨q, hq⟩ : ∃ q, min (rn ts[j]) (most + 1) = q := ⟨_, rfl⟩
       rw [hq] at hcall
       have HCALL := Lib.hid hcall
       dsimp only [tv] at HCALL
       have HC2 : Hid (RCnt most (acc + q) (1 + m.size / 16 + nodesL ls + rnL (ts.take (j + 1)))) := by
        have h1 := hc.out
        have : RCnt most (acc + q) (1 + m.size / 16 + nodesL ls + rnL (ts.take (j + 1))) := by
         unfold RCnt at h1 ⊢
         rw [HNT.out, ← hq]
         omega
        exact this
       have hq2 : q ≤ most + 1 := by omega
       have q1 : (0 : Int) ≤ (j : Int) := by omega
       have q2 : (j : Int) < (sl : Int) := by omega
       generalize tkOf ts[j] = ka at *
       generalize tnOf ts[j] = na at *
       generalize tmOf ts[j] = ma at *
       clear hcall hc0 hc1 hc2 hc3 hc4 htm hq HNT hBw
       go_wp2_with fail
       refine HCALL.out.mono ?_
       rintro e w2 ⟨rfl, hb2⟩
       have HBW2 := Lib.hid (HBW.out.trans (hb2.mono HBW.out.size))
       clear hb2
       go_wp2_with fail
       go_roundw
       case rel => exact ⟨_, _, _, _, _, _, _, _, _, _, _, _, _, _, _, _, _, _, _, _, _, _, _, ⟨j + 1, acc + q, by omega, by go_num, by go_num, HC2, by omega, HBW2.out⟩, rfl⟩
       case measure => simp [intOf]; omega
      ·have hd : decide ((acc : Int) ≤ (most : Int)) = false := by simp; omega
       have hle := Lib.hid (rnL_le ts j)
       by_cases hmo : acc ≤ most + 1
       ·have hmi : (acc : Int) ≤ (most : Int) + 1 := by omega
        have HF2 : Hid (R = acc) := by
         have h1 := hc.out
         have h3 := HR.out
         have : R = acc := by unfold RCnt at h1; have h4 := hle.out; omega
         exact this
        go_wp2_with fail
        go_ret
        exact ⟨by rw [HF2.out]; rfl, HB.out.trans (HBW.out.mono HB.out.size)⟩
       ·have hmi : (most : Int) + 1 < (acc : Int) := by omega
        have HF2 : Hid (R = most + 1) := by
         have h1 := hc.out
         have h3 := HR.out
         have : R = most + 1 := by unfold RCnt at h1; have h4 := hle.out; omega
         exact this
        go_wp2_with fail
        go_ret
        exact ⟨by rw [HF2.out]; rfl, HB.out.trans (HBW.out.mono HB.out.size)⟩
     ·have hln : decide ((j : Int) < (sl : Int)) = false := by simp; omega
      have hle := Lib.hid (show ts.take j = ts from List.take_of_length_le (by rw [HLEN.out]; omega))
      by_cases hmo : acc ≤ most + 1
      ·have hmi : (acc : Int) ≤ (most : Int) + 1 := by omega
       have HF2 : Hid (R = acc) := by
        have h1 := hc.out
        have h3 := HR.out
        have : R = acc := by unfold RCnt at h1; rw [hle.out] at h1; omega
        exact this
       go_wp2_with fail
       go_ret
       exact ⟨by rw [HF2.out]; rfl, HB.out.trans (HBW.out.mono HB.out.size)⟩
      ·have hmi : (most : Int) + 1 < (acc : Int) := by omega
       have HF2 : Hid (R = most + 1) := by
        have h1 := hc.out
        have h3 := HR.out
        have : R = most + 1 := by unfold RCnt at h1; rw [hle.out] at h1; omega
        exact this
       go_wp2_with fail
       go_ret
       exact ⟨by rw [HF2.out]; rfl, HB.out.trans (HBW.out.mono HB.out.size)⟩
  ·have hln : decide ((j : Int) < (ll : Int)) = false := by simp; omega
   have HC0 : Hid (RCnt most acc (1 + m.size / 16 + nodesL ls + rnL (ts.take 0))) := by
    have h1 := hc.out
    have : RCnt most acc (1 + m.size / 16 + nodesL ls + rnL (ts.take 0)) := by
     rw [List.take_of_length_le (by rw [HLL.out]; omega)] at h1
     rw [List.take_zero, rnL]
     exact h1
    exact this
   go_wp2_with fail
   generalize wr = Wq at *
   go_loopw [5, 7] (fun c i wr => ∃ j acc : Nat, j ≤ sl ∧ i = .int .i64 j ∧ c = .int .i64 acc ∧ Hid (RCnt most acc (1 + m.size / 16 + nodesL ls + rnL (ts.take j))) ∧ acc ≤ 8796093022208 + 2 + 4 * most ∧ Hid (Below W.heap.size W wr)) (fun _ i _ => sl - (intOf i).toNat)
   case atStart => exact ⟨0, acc, Nat.zero_le _, rfl, rfl, HC0.out, by omega, HBW.out⟩
   case round =>
    obtain ⟨j, acc, hj, rfl, rfl, hc, ha, hb⟩ := hrel
    have HBW := hb
    obtain ⟨a0, a1, a2, a3, a4⟩ := five_cells ((hb.out.block w.heap.size (by omega)).trans HR0.out)
    by_cases hlt : j < sl
    ·have hx1 : j < ts.length := by rw [HLEN.out]; exact hlt
     have hln : decide ((j : Int) < (sl : Int)) = true := by simp; omega
     by_cases hmo : acc ≤ most
     ·have hd : decide ((acc : Int) ≤ (most : Int)) = true := by simp; omega
      obtain ⟨bk, o, l1, s1, eA, hbs, _, hc0, hc1, hc2, hc3, hc4, htm⟩ := tsP_get HTS.out j hx1
      subst eA
      obtain ⟨⟨xa, xl, xc, rfl⟩, ya, yl, yc, rfl⟩ := tmP_slices htm
      have hBw := HB.out.trans (hb.out.mono HB.out.size)
      have d0 := (hBw.cell (p := ⟨bk, _, none⟩) hbs).trans hc0
      have d1 := (hBw.cell (p := ⟨bk, _, none⟩) hbs).trans hc1
      have d2 := (hBw.cell (p := ⟨bk, _, none⟩) hbs).trans hc2
      have d3 := (hBw.cell (p := ⟨bk, _, none⟩) hbs).trans hc3
      have d4 := (hBw.cell (p := ⟨bk, _, none⟩) hbs).trans hc4
      have hcall := IH.out ts[j] (tv ts[j] (.slice xa xl xc) (.slice ya yl yc)) wr (Nat.le_trans (tnodes_mem (List.getElem_mem hx1)) HTN.out) (nmOkL_mem HNM.out (List.getElem_mem hx1)) ⟨_, _, rfl, tmP_below hBw htm⟩
      have HNT := Lib.hid (rnL_take hx1)
      obtain ⟨q, hq⟩ : ∃ q, min (rn ts[j]) (most + 1) = q := ⟨_, rfl⟩
      rw [hq] at hcall
      have HCALL := Lib.hid hcall
      dsimp only [tv] at HCALL
      have HC2 : Hid (RCnt most (acc + q) (1 + m.size / 16 + nodesL ls + rnL (ts.take (j + 1)))) := by
       have h1 := hc.out
       have : RCnt most (acc + q) (1 + m.size / 16 + nodesL ls + rnL (ts.take (j + 1))) := by
        unfold RCnt at h1 ⊢
        rw [HNT.out, ← hq]
        omega
       exact this
      have hq2 : q ≤ most + 1 := by omega
      have q1 : (0 : Int) ≤ (j : Int) := by omega
      have q2 : (j : Int) < (sl : Int) := by omega
      generalize tkOf ts[j] = ka at *
      generalize tnOf ts[j] = na at *
      generalize tmOf ts[j] = ma at *
      clear hcall hc0 hc1 hc2 hc3 hc4 htm hq HNT hBw
      go_wp2_with fail
      refine HCALL.out.mono ?_
      rintro e w2 ⟨rfl, hb2⟩
      have HBW2 := Lib.hid (HBW.out.trans (hb2.mono HBW.out.size))
      clear hb2
      go_wp2_with fail
      go_roundw
      case rel => exact ⟨_, _, _, _, _, _, _, _, _, _, _, _, _, _, _, _, _, _, _, _, _, _, _, ⟨j + 1, acc + q, by omega, by go_num, by go_num, HC2, by omega, HBW2.out⟩, rfl⟩
      case measure => simp [intOf]; omega
     ·have hd : decide ((acc : Int) ≤ (most : Int)) = false := by simp; omega
      have hle := Lib.hid (rnL_le ts j)
      by_cases hmo : acc ≤ most + 1
      ·have hmi : (acc : Int) ≤ (most : Int) + 1 := by omega
       have HF2 : Hid (R = acc) := by
        have h1 := hc.out
        have h3 := HR.out
        have : R = acc := by unfold RCnt at h1; have h4 := hle.out; omega
        exact this
       go_wp2_with fail
       go_ret
       exact ⟨by rw [HF2.out]; rfl, HB.out.trans (HBW.out.mono HB.out.size)⟩
      ·have hmi : (most : Int) + 1 < (acc : Int) := by omega
       have HF2 : Hid (R = most + 1) := by
        have h1 := hc.out
        have h3 := HR.out
        have : R = most + 1 := by unfold RCnt at h1; have h4 := hle.out; omega
        exact this
       go_wp2_with fail
       go_ret
       exact ⟨by rw [HF2.out]; rfl, HB.out.trans (HBW.out.mono HB.out.size)⟩
    ·have hln : decide ((j : Int) < (sl : Int)) = false := by simp; omega
     have hle := Lib.hid (show ts.take j = ts from List.take_of_length_le (by rw [HLEN.out]; omega))
     by_cases hmo : acc ≤ most + 1
     ·have hmi : (acc : Int) ≤ (most : Int) + 1 := by omega
      have HF2 : Hid (R = acc) := by
       have h1 := hc.out
       have h3 := HR.out
       have : R = acc := by unfold RCnt at h1; rw [hle.out] at h1; omega
       exact this
      go_wp2_with fail
      go_ret
      exact ⟨by rw [HF2.out]; rfl, HB.out.trans (HBW.out.mono HB.out.size)⟩
     ·have hmi : (most : Int) + 1 < (acc : Int) := by omega
      have HF2 : Hid (R = most + 1) := by
       have h1 := hc.out
       have h3 := HR.out
       have : R = most + 1 := by unfold RCnt at h1; rw [hle.out] at h1; omega
       exact this
      go_wp2_with fail
      go_ret
      exact ⟨by rw [HF2.out]; rfl, HB.out.trans (HBW.out.mono HB.out.size)⟩
end Trm
end Go.Proofs.YteomfakbbcpckaaGreatDoor
namespace Go.Proofs.YteomfakbbcpckaaGreatDoor
open Go.RowKit
open Lvl
namespace Lvl
mutual
def instF (bs : List Lv) : Lv → Lv
 | .mk k n ts => if k = 2 then bs.getD n.toNat (.mk k n ts) else .mk k n (instL bs ts)
def instL (bs : List Lv) : List Lv → List Lv
 | [] => []
 | a :: ts => instF bs a :: instL bs ts
end
end Lvl
def LvL (w : World) (V : Value) (bs : List Lv) : Prop := LvS w (.mk 0 0 bs) V
theorem LvL.below {w w' : World} {V : Value} {bs : List Lv} (h : LvL w V bs) (hb : Below w.heap.size w w') : LvL w' V bs := lvS_below hb _ _ h
end Go.Proofs.YteomfakbbcpckaaGreatDoor
namespace Go.Proofs.YteomfakbbcpckaaGreatDoor
open Go.RowKit
open Lvl
set_option maxRecDepth 100000 in
set_option maxHeartbeats 2000000 in
theorem each_copied (g : Lv → Lv) (ts : List Lv) (A : Option Addr) (len cap : Nat) (w : World) (hl : ts.length = len) (hlc : len ≤ cap) (h1000 : len ≤ 1000) (hs : LsV w A 0 ts)
  (CE : ∀ w', Below w.heap.size w w' → ∀ a, a ∈ ts → ∀ v, LvV w' a v → Calls Tryz.prog 175 #[v] w' (LvRet w' (g a))) :
  Calls Tryz.prog 199 #[.slice A len cap, .func (.func 175) #[] #[]] w (fun e w' => ∃ V, e = .returned V ∧ OwnL w' w.heap.size V (ts.map g) ∧ Below w.heap.size w w') := by
 obtain ⟨i0, hi0, hz0, hz1, hz2⟩ := info_parts infoLv
 have HCE := Lib.hid CE
 have HS := Lib.hid hs
 have HN := Lib.hid hl
 have HUL : Hid ((ts.map g).length = len) := by
  have : (ts.map g).length = len := by rw [List.length_map, hl]
  exact this
 clear CE hs hl
 go_enter Tryz.func199, Tryz.ntmps199
 go_wp2_with fail
 go_loopw [5, 10] (fun V i wr => ∃ j : Nat, j ≤ len ∧ i = .int .i64 j ∧ OwnL wr w.heap.size V ((ts.map g).take j) ∧ Below w.heap.size w wr) (fun _ i _ => len - (intOf i).toNat)
 case atStart => exact ⟨0, Nat.zero_le _, rfl, ownL_nil _ _, Below.refl _ _⟩
 case round =>
  obtain ⟨j, hj, rfl, hown, hb⟩ := hrel
  have HOWN := Lib.hid hown
  have HBW := Lib.hid hb
  have HSW := Lib.hid (lsV_below hb _ _ _ HS.out)
  clear hown hb
  by_cases hlt : j < len
  ·have hx1 : j < ts.length := by rw [HN.out]; exact hlt
   have hln : decide ((j : Int) < (len : Int)) = true := by simp; omega
   obtain ⟨b, o, s, rfl, hbs, hc0, hc1, hc2, hls⟩ := lsV_get HSW.out j hx1
   obtain ⟨sa, sl, sc, rfl⟩ := lvS_slice hls
   have HLS : Hid (LvV wr ts[j] (.agg #[.int .i64 (kindOf ts[j]), .int .i64 (numOf ts[j]), .slice sa sl sc])) := ⟨_, rfl, hls⟩
   have HTK : Hid ((ts.map g).take (j + 1) = (ts.map g).take j ++ [g ts[j]]) := by
    have : (ts.map g).take (j + 1) = (ts.map g).take j ++ [g ts[j]] := by rw [List.take_add_one, List.getElem?_eq_getElem (by rw [List.length_map]; exact hx1), List.getElem_map]; rfl
    exact this
   have HME := Lib.hid (List.getElem_mem hx1)
   have q1 : (0 : Int) ≤ (j : Int) := by omega
   have q2 : (j : Int) < (len : Int) := by omega
   generalize kindOf ts[j] = ki at *
   generalize numOf ts[j] = nu at *
   generalize ts[j] = tj at *
   clear hls
   obtain ⟨ss, hsl, hso, hsk⟩ := HOWN.out
   have hjl : ((ts.map g).take j).length = j := by rw [List.length_take, HUL.out]; omega
   rw [hjl] at hso
   have HO := Lib.hid hso
   have HSL := Lib.hid hsl
   have HSK := Lib.hid hsk
   have HJL := Lib.hid hjl
   have hbo1 : j + 1 ≤ maxLen := by unfold maxLen; omega
   have hbo2 : (j + 1) * 40 ≤ 140737488355328 := by omega
   clear hso hsl hsk hjl
   go_wp2_with fail
   have hbl := below_lit wr (.cells #[.int .i64 ki, .int .i64 nu, .slice sa sl sc] 48)
   have HBL := Lib.hid hbl
   have HHL := Lib.hid (HLS.out.below hbl)
   generalize wr.alloc (.cells #[.int .i64 ki, .int .i64 nu, .slice sa sl sc] 48) = W1 at *
   clear hbl
   refine (HCE.out W1 (HBW.out.trans (HBL.out.mono HBW.out.size)) tj HME.out _ HHL.out).mono ?_
   rintro e wA ⟨s9, rfl, hs9, hbA⟩
   have HBA := Lib.hid (HBL.out.trans (hbA.mono HBL.out.size))
   have HS9 : Hid (LvP wA (fun b => wr.heap.size ≤ b) (g tj) s9) := lvP_move (w := wA) (w' := wA) (fun b _ hp => ⟨Nat.le_trans HBL.out.size hp, rfl⟩) (Nat.le_refl _) _ _ hs9
   obtain ⟨k9, hk9⟩ : ∃ k, kindOf (g tj) = k := ⟨_, rfl⟩
   obtain ⟨n9, hn9⟩ : ∃ n, numOf (g tj) = n := ⟨_, rfl⟩
   have HK9 := Lib.hid hk9
   have HN9 := Lib.hid hn9
   rw [hk9, hn9]
   have HBAS : Hid (w.heap.size ≤ wA.heap.size) := Nat.le_trans HBW.out.size HBA.out.size
   clear hs9 hbA hc0 hc1 hc2 hk9 hn9
   go_wp2_with (first | (refine wpList_append_lies _ rfl (.tmp 14) (.tmp 18) 22 rfl w.heap.size 48 i0 (.agg #[.int .i64 0, .int .i64 0, .slice none 0 0]) 3 40 Tryz.underlying22 hi0 hz0 hz1 hz2 rfl (by decide) u5 j (cells3 ((ts.map g).take j) ss) (by simp [Act.eval]) (own_alloc (own_below HO.out HBA.out) _) ⟨wA.heap.size, 0, none⟩ 1 1 [.int .i64 k9, .int .i64 n9, s9] (by simp [Act.eval]) rfl (World.news_of_block (heap_alloc_new wA _)) (three_oneCell (lvP_one HS9.out)) (by decide) hbo1 hbo2 (by have := HBAS.out; simp; omega) (wA.heap.size + 1) (by simp) ?_; intro g9 cap' w2 hown2 hgrow hat hlt2))
   have hA : Below w.heap.size w wA := HBW.out.trans (HBA.out.mono HBW.out.size)
   refine ⟨⟨j + 1, by omega, by go_num, ?_, (hA.alloc hA.size _).grown hgrow (by have := hA.size; simp; omega) (fun k e => own_block HO.out k e)⟩, by simp [intOf]; omega⟩
   have hst := ownL_step (w0 := wr) (w1 := wA) (w2 := w2) (base := w.heap.size) (V := u5) (ts := (ts.map g).take j) (ss := ss) (a := g tj) (s := s9) (H := wA.heap.size + 1) (O := .cells #[.int .i64 k9, .int .i64 n9, s9] 48) (g := g9) (cap := cap') HSL.out (by rw [HJL.out]; exact HO.out) HSK.out HBW.out.size HBA.out HS9.out (by simp) (by rw [HJL.out, HK9.out, HN9.out]; exact hown2) hgrow hat
   rw [HJL.out] at hst
   rw [HTK.out]
   exact hst
  ·obtain rfl : j = len := by omega
   have hln : decide ((j : Int) < (j : Int)) = false := by simp
   have HF : Hid ((ts.map g).take j = ts.map g) := by
    have : (ts.map g).take j = ts.map g := List.take_of_length_le (by rw [HUL.out]; exact Nat.le_refl _)
    exact this
   go_wp2_with fail
   go_ret
   exact ⟨_, rfl, by rw [← HF.out]; exact HOWN.out, HBW.out⟩
set_option maxRecDepth 100000 in
set_option maxHeartbeats 2000000 in
theorem copied_up : ∀ (N : Nat) (t : Lv) (v : Value) (w : World), nodes t ≤ N → nodes t ≤ 1000 → LvV w t v →
  Calls Tryz.prog 175 #[v] w (LvRet w t) := by
 intro N
 induction N with
 | zero => intro t v w h _ _; have := nodes_pos t; omega
 | succ N ih =>
 intro t v w hN hM hv
 obtain ⟨i0, hi0, hz0, hz1, hz2⟩ := info_parts infoLv
 obtain ⟨s, rfl, hs⟩ := hv
 cases t with
 | mk k n ts =>
 rw [LvS] at hs
 obtain ⟨A, len, cap, rfl, h1, h2, h2b, h3, h4⟩ := hs
 have hnn : nodesL ts ≤ N ∧ nodesL ts ≤ 1000 := by
  rw [nodes] at hN hM
  exact ⟨by omega, by omega⟩
 have IH : Hid (∀ w', ∀ a, a ∈ ts → ∀ v, LvV w' a v → Calls Tryz.prog 175 #[v] w' (LvRet w' a)) := fun w' a ha v hv => ih a v w' (Nat.le_trans (nodes_mem ha) hnn.1) (Nat.le_trans (nodes_mem ha) hnn.2) hv
 have hlen : len ≤ 1000 := by
  have := len_nodes ts
  omega
 have HS := Lib.hid h4
 have HN := Lib.hid h1
 clear h4 h1 h3 hN hM ih hnn
 show Calls Tryz.prog 175 #[.agg #[.int .i64 k, .int .i64 n, .slice A len cap]] w (LvRet w (.mk k n ts))
 go_enter Tryz.func175, Tryz.ntmps175
 go_wp2_with fail
 have H0 := Lib.hid (below_lit w (.cells #[.int .i64 k, .int .i64 n, .slice A len cap] 48))
 have hr0 := heap_alloc_new w (.cells #[.int .i64 k, .int .i64 n, .slice A len cap] 48)
 have z0 : (w.alloc (.cells #[.int .i64 k, .int .i64 n, .slice A len cap] 48)).heap.size = w.heap.size + 1 := by simp
 generalize w.alloc (.cells #[.int .i64 k, .int .i64 n, .slice A len cap] 48) = W0 at *
 have H1 := Lib.hid (below_lit W0 (.cells #[.int .i64 0, .int .i64 0, .slice none 0 0] 48))
 have hr1 := heap_alloc_new W0 (.cells #[.int .i64 0, .int .i64 0, .slice none 0 0] 48)
 have z1 : (W0.alloc (.cells #[.int .i64 0, .int .i64 0, .slice none 0 0] 48)).heap.size = w.heap.size + 1 + 1 := by simp [z0]
 rw [z0] at hr1
 generalize W0.alloc (.cells #[.int .i64 0, .int .i64 0, .slice none 0 0] 48) = W1 at *
 have HB := Lib.hid (H0.out.trans (H1.out.mono H0.out.size))
 have HR0 := Lib.hid ((H1.out.block w.heap.size (by omega)).trans hr0)
 have HR1 := Lib.hid hr1
 have HZ := Lib.hid z1
 clear hr0 hr1 z0 H0 H1
 refine (each_copied id ts A len cap W1 HN.out h2 hlen (lsV_below HB.out _ _ _ HS.out) (fun w' _ a ha v hv => IH.out w' a ha v hv)).mono ?_
 rintro e wA ⟨V, rfl, hown, hb⟩
 rw [List.map_id] at hown
 obtain ⟨va, vl, vc, rfl⟩ := ownL_slice hown
 have hr0 := (hb.block w.heap.size (by rw [HZ.out]; omega)).trans HR0.out
 have hr1 := (hb.block (w.heap.size + 1) (by rw [HZ.out]; omega)).trans HR1.out
 have HBA := Lib.hid (HB.out.trans (hb.mono HB.out.size))
 have HOW := Lib.hid hown
 have HZA := Lib.hid hb.size
 have c0 := cell_of_row wA _ 0 _ 48 (0, 0) hr0
 have c1 := cell_of_row wA _ 1 _ 48 (0, 0) hr0
 have c2 := cell_of_row wA _ 2 _ 48 (0, 0) hr0
 have f2 := frozen0 (p := 2) hr0
 have e0 := cell_of_row wA _ 0 _ 48 (0, 0) hr1
 have e1 := cell_of_row wA _ 1 _ 48 (0, 0) hr1
 have e2 := cell_of_row wA _ 2 _ 48 (0, 0) hr1
 have g0 := frozen0 (p := 0) hr1
 have g1 := frozen0 (p := 1) hr1
 have g2 := frozen0 (p := 2) hr1
 clear hb hown
 go_wp2_with fail
 have HTL := Lib.hid HN.out
 have hr2 := (setCell_far wA ⟨w.heap.size, 2, none⟩ (.slice va vl vc) (w.heap.size + 1) (by show w.heap.size + 1 ≠ w.heap.size; omega)).trans hr1
 refine bodyPost_ret (results_cell_row rfl _ _ (w.heap.size + 1) 48 _ (0, 0) _ rfl (set3_row hr2) Tryz.underlying48 rfl (by rw [hi0, Option.map_some, hz1]; rfl)) rfl ?_
 have hzz := HZ.out
 refine ⟨_, rfl, lvP_move (w := wA) (fun b _ hp => ⟨by omega, ?_⟩) ?_ _ _ (ownL_lvP HOW.out (by rw [HTL.out]; exact h2b) k n), below_set (below_set (below_set (below_set HBA.out _ _ ?_) _ _ ?_) _ _ ?_) _ _ ?_⟩
 ·rw [setCell_far _ _ _ _ ?_, setCell_far _ _ _ _ ?_, setCell_far _ _ _ _ ?_, setCell_far _ _ _ _ ?_] <;> first | (show b ≠ w.heap.size + 1; omega) | (show b ≠ w.heap.size; omega)
 ·rw [setCell_size, setCell_size, setCell_size, setCell_size]; exact Nat.le_refl _
 all_goals first | (show w.heap.size ≤ w.heap.size; omega) | (show w.heap.size ≤ w.heap.size + 1; omega)
end Go.Proofs.YteomfakbbcpckaaGreatDoor
namespace Go.Proofs.YteomfakbbcpckaaGreatDoor
open Go.RowKit
open Lvl
theorem below_2 (w : World) (O O' : Obj) : Below w.heap.size w ((w.alloc O).alloc O') := (below_lit w O).trans ((below_lit _ O').mono (by simp))
theorem row_2 (w : World) (O O' : Obj) : ((w.alloc O).alloc O').heap[w.heap.size + 1]? = some O' := by
 have := heap_alloc_new (w.alloc O) O'
 rwa [show (w.alloc O).heap.size = w.heap.size + 1 by simp] at this
end Go.Proofs.YteomfakbbcpckaaGreatDoor
namespace Go.Proofs.YteomfakbbcpckaaGreatDoor
open Go.RowKit
open Lvl
set_option maxRecDepth 100000 in
set_option maxHeartbeats 1000000 in
theorem own_any (t : Lv) (v : Value) (w : World) (hv : LvV w t v) (hm : nodes t ≤ 1000) : Calls Tryz.prog 146 #[v] w (LvRet w t) := by
 obtain ⟨i0, hi0, hz0, hz1, hz2⟩ := info_parts infoLv
 obtain ⟨s, rfl, hs⟩ := hv
 have HVA := Lib.hid (show LvV w t _ from ⟨s, rfl, hs⟩)
 have HM := Lib.hid hm
 obtain ⟨R, hR⟩ : ∃ R, min (nodes t) (67108864 + 1) = R := ⟨_, rfl⟩
 have HR := Lib.hid hR
 have hR2 : R ≤ 1000 := by omega
 have HK9 := Lib.hid (rfl : kindOf t = kindOf t)
 obtain ⟨k, hk⟩ : ∃ k, kindOf t = k := ⟨_, rfl⟩
 obtain ⟨n, hn⟩ : ∃ n, numOf t = n := ⟨_, rfl⟩
 rw [hk, hn] at HVA ⊢
 have HKK := Lib.hid hk
 have HNN := Lib.hid hn
 clear hs hm hR hk hn HK9
 have HB := Lib.hid (below_2 w (.cells #[.int .i64 k, .int .i64 n, s] 48) (.cells #[.int .i64 0, .int .i64 0, .slice none 0 0] 48))
 have hr1 := row_2 w (.cells #[.int .i64 k, .int .i64 n, s] 48) (.cells #[.int .i64 0, .int .i64 0, .slice none 0 0] 48)
 have hr0 := (heap_alloc_old (w.alloc (.cells #[.int .i64 k, .int .i64 n, s] 48)) (.cells #[.int .i64 0, .int .i64 0, .slice none 0 0] 48) (r := w.heap.size) (by simp)).trans (heap_alloc_new w _)
 have hz : ((w.alloc (.cells #[.int .i64 k, .int .i64 n, s] 48)).alloc (.cells #[.int .i64 0, .int .i64 0, .slice none 0 0] 48)).heap.size = w.heap.size + 1 + 1 := by simp
 go_enter Tryz.func146, Tryz.ntmps146
 go_wp2_with fail
 generalize (w.alloc (.cells #[.int .i64 k, .int .i64 n, s] 48)).alloc (.cells #[.int .i64 0, .int .i64 0, .slice none 0 0] 48) = W at *
 refine (count_up (nodes t) t _ W 67108864 131072 (Nat.le_refl _) (by have := HM.out; omega) (by omega) (by omega) (HVA.out.below HB.out)).mono ?_
 rintro e w2 ⟨rfl, hb⟩
 rw [HR.out]
 have hr1 := (hb.block (w.heap.size + 1) (by omega)).trans hr1
 have hr0 := (hb.block w.heap.size (by omega)).trans hr0
 have HB2 := Lib.hid (HB.out.trans (hb.mono HB.out.size))
 have hz2' : w.heap.size + 1 + 1 ≤ w2.heap.size := by rw [← hz]; exact hb.size
 have q0 := cell_of_row w2 _ 0 _ 48 (0, 0) hr0
 have q1 := cell_of_row w2 _ 1 _ 48 (0, 0) hr0
 have q2 := cell_of_row w2 _ 2 _ 48 (0, 0) hr0
 have hdd : decide ((67108864 : Int) < (R : Int)) = false := by simp; omega
 have HR1 := Lib.hid hr1
 clear hb hr0 hr1 hz
 go_wp2_with fail
 refine (copied_up (nodes t) t _ w2 (Nat.le_refl _) HM.out (HVA.out.below HB2.out)).mono ?_
 rintro e wA ⟨s9, rfl, hs9, hb⟩
 rw [HKK.out, HNN.out]
 obtain ⟨va, vl, vc, rfl⟩ := lvP_slice hs9
 have HS9 := Lib.hid hs9
 have hr2 := (hb.block (w.heap.size + 1) (by omega)).trans HR1.out
 have HBA := Lib.hid (HB2.out.trans (hb.mono HB2.out.size))
 have HZZ := Lib.hid hz2'
 have e0 := cell_of_row wA _ 0 _ 48 (0, 0) hr2
 have g0 := frozen0 (p := 0) hr2
 have e1 := cell_of_row wA _ 1 _ 48 (0, 0) hr2
 have g1 := frozen0 (p := 1) hr2
 have e2 := cell_of_row wA _ 2 _ 48 (0, 0) hr2
 have g2 := frozen0 (p := 2) hr2
 clear hb hs9 hz2'
 go_wp2_with fail
 refine bodyPost_ret (results_cell_row rfl _ _ (w.heap.size + 1) 48 _ (0, 0) _ rfl (set3_row hr2) Tryz.underlying48 rfl (by rw [hi0, Option.map_some, hz1]; rfl)) rfl ?_
 refine ⟨_, by rw [HKK.out, HNN.out], lvP_move (w := wA) (fun b _ hp => ⟨by have := HZZ.out; omega, ?_⟩) ?_ _ _ HS9.out, below_set (below_set (below_set HBA.out _ _ ?_) _ _ ?_) _ _ ?_⟩
 ·have := HZZ.out
  rw [setCell_far _ _ _ _ ?_, setCell_far _ _ _ _ ?_, setCell_far _ _ _ _ ?_] <;> (show b ≠ w.heap.size + 1; omega)
 ·rw [setCell_size, setCell_size, setCell_size]; exact Nat.le_refl _
 all_goals (show w.heap.size ≤ w.heap.size + 1; omega)
theorem lvP_leaf (w : World) (P : Nat → Prop) (k n : Int) : LvP w P (.mk k n []) (.slice none 0 0) := by
 rw [LvP]
 exact ⟨none, 0, 0, rfl, rfl, Nat.le_refl _, by omega, fun _ => rfl, by rw [LsP]; trivial⟩
theorem lvP_one_row {wA w' : World} {B B2 : Nat} {t : Lv} {s : Value} (hs : LvP wA (fun b => B ≤ b) t s) (hB : B ≤ B2) (hlt : B2 < w'.heap.size) (hrow : w'.heap[B2]? = some (.cells #[.int .i64 (kindOf t), .int .i64 (numOf t), s] 48 (0, 0))) (hk : Below wA.heap.size wA w') (k : Int) :
  LvP w' (fun b => B ≤ b) (.mk k 0 [t]) (.slice (some ⟨B2, 0, none⟩) 1 1) := by
 rw [LvP]
 refine ⟨some ⟨B2, 0, none⟩, 1, 1, rfl, rfl, Nat.le_refl _, by omega, (fun e => by cases e), lsP_of _ 0 fun i hi => ?_⟩
 obtain rfl : i = 0 := by simpa using hi
 refine ⟨B2, 0, s, rfl, hlt, hB, cell_of_row w' _ 0 _ 48 (0, 0) hrow, cell_of_row w' _ 1 _ 48 (0, 0) hrow, cell_of_row w' _ 2 _ 48 (0, 0) hrow, lvP_move (fun b hb hp => ⟨hp, hk.block b hb⟩) hk.size _ _ hs⟩
theorem lvP_below {w w' : World} {P : Nat → Prop} {t : Lv} {s : Value} (h : LvP w P t s) (hb : Below w.heap.size w w') : LvP w' P t s := lvP_move (fun b hlt hp => ⟨hp, hb.block b hlt⟩) hb.size _ _ h
theorem lvP_weak {w : World} {P Q : Nat → Prop} {t : Lv} {s : Value} (h : LvP w P t s) (hq : ∀ b, P b → Q b) : LvP w Q t s := lvP_move (w := w) (w' := w) (fun b _ hp => ⟨hq b hp, rfl⟩) (Nat.le_refl _) _ _ h
end Go.Proofs.YteomfakbbcpckaaGreatDoor
namespace Go.Proofs.YteomfakbbcpckaaGreatDoor
open Go.RowKit
open Lvl
namespace Trm
set_option maxRecDepth 100000 in
set_option maxHeartbeats 2000000 in
theorem max1_is (t : Lv) (B : Nat) (w : World) (hs : LsV w (some ⟨B, 0, none⟩) 0 [t]) (hm : nodes t ≤ 1000) : Calls Tryz.prog 130 #[.slice (some ⟨B, 0, none⟩) 1 1] w (LvRet w t) := by
 obtain ⟨i0, hi0, hz0, hz1, hz2⟩ := info_parts infoLv
 obtain ⟨b', o', s0, e9', hbs', hd0, hd1, hd2, hls0⟩ := lsV_get hs 0 (by simp)
 cases e9'
 simp only [Nat.zero_mul, Nat.add_zero, Nat.zero_add, List.getElem_cons_zero] at hd0 hd1 hd2 hls0
 have HLS0 := Lib.hid (show LvV w t (.agg #[.int .i64 (kindOf t), .int .i64 (numOf t), s0]) from ⟨s0, rfl, hls0⟩)
 obtain ⟨k1, hk1⟩ : ∃ k, kindOf t = k := ⟨_, rfl⟩
 obtain ⟨n1, hn1⟩ : ∃ n, numOf t = n := ⟨_, rfl⟩
 have CA : Hid (∀ w' v, LvV w' t v → Calls Tryz.prog 146 #[v] w' (fun e w9 => ∃ s, e = .returned (.agg #[.int .i64 k1, .int .i64 n1, s]) ∧ LvP w9 (fun b => w'.heap.size ≤ b) t s ∧ Below w'.heap.size w' w9)) := fun w' v h => by
  have := own_any t v w' h hm
  unfold LvRet at this
  rwa [hk1, hn1] at this
 rw [hk1, hn1] at HLS0
 rw [hk1] at hd0
 rw [hn1] at hd1
 have HKK := Lib.hid hk1
 have HNN := Lib.hid hn1
 clear hs hls0 hm hk1 hn1
 have HB := Lib.hid (below_lit w (.cells #[.int .i64 0, .int .i64 0, .slice none 0 0] 48))
 have hr0 := heap_alloc_new w (.cells #[.int .i64 0, .int .i64 0, .slice none 0 0] 48)
 have hz : (w.alloc (.cells #[.int .i64 0, .int .i64 0, .slice none 0 0] 48)).heap.size = w.heap.size + 1 := by simp
 have q0 := (HB.out.cell (p := ⟨B, 0, none⟩) hbs').trans hd0
 have q1 := (HB.out.cell (p := ⟨B, 1, none⟩) hbs').trans hd1
 have q2 := (HB.out.cell (p := ⟨B, 2, none⟩) hbs').trans hd2
 go_enter Tryz.func130, Tryz.ntmps130
 go_wp2_with fail
 generalize w.alloc (.cells #[.int .i64 0, .int .i64 0, .slice none 0 0] 48) = W at *
 refine (CA.out W _ (HLS0.out.below HB.out)).mono ?_
 rintro e wA ⟨sU, rfl, hsU, hb⟩
 obtain ⟨ua, ul, uc, rfl⟩ := lvP_slice hsU
 have hN := below_lit wA (.cells #[.int .i64 k1, .int .i64 n1, .slice ua ul uc] 48)
 have hb2 := hb.trans (hN.mono hb.size)
 have HB2 := Lib.hid (HB.out.trans (hb2.mono HB.out.size))
 have HPU := Lib.hid (lvP_move (w := wA) (Q := fun b => w.heap.size + 1 ≤ b) (fun b hlt hp => ⟨by omega, hN.block b hlt⟩) hN.size _ _ hsU)
 have hr4 := heap_alloc_new wA (.cells #[.int .i64 k1, .int .i64 n1, .slice ua ul uc] 48)
 have HR0 := Lib.hid ((hb2.block w.heap.size (by omega)).trans hr0)
 have HZA : Hid (w.heap.size + 1 ≤ wA.heap.size) := by have := hb.size; rw [hz] at this; exact this
 clear hb hb2 hN hsU hr0 hz q0 q1 q2 hd0 hd1 hd2
 go_wp2_with fail
 generalize wA.alloc (.cells #[.int .i64 k1, .int .i64 n1, .slice ua ul uc] 48) = W4 at *
 have HR4 := Lib.hid hr4
 clear hr4
 go_loopw [5] (fun i wr => i = .int .i64 (-1) ∧ wr = W4) (fun i _ => (intOf i + 1).toNat)
 case atStart => exact ⟨rfl, rfl⟩
 case round =>
  obtain ⟨rfl, rfl⟩ := hrel
  have c0 := cell_of_row wr _ 0 _ 48 (0, 0) HR4.out
  have c1 := cell_of_row wr _ 1 _ 48 (0, 0) HR4.out
  have c2 := cell_of_row wr _ 2 _ 48 (0, 0) HR4.out
  have hrz := HR0.out
  have e0 := cell_of_row wr _ 0 _ 48 (0, 0) hrz
  have g0 := frozen0 (p := 0) hrz
  have e1 := cell_of_row wr _ 1 _ 48 (0, 0) hrz
  have g1 := frozen0 (p := 1) hrz
  have e2 := cell_of_row wr _ 2 _ 48 (0, 0) hrz
  have g2 := frozen0 (p := 2) hrz
  go_wp2_with fail
  refine bodyPost_ret (results_cell_row rfl _ _ (w.heap.size) 48 _ (0, 0) _ rfl (set3_row hrz) Tryz.underlying48 rfl (by rw [hi0, Option.map_some, hz1]; rfl)) rfl ?_
  refine ⟨_, by rw [HKK.out, HNN.out], lvP_move (w := wr) (fun b _ hp => ⟨by omega, ?_⟩) ?_ _ _ HPU.out, below_set (below_set (below_set HB2.out _ _ ?_) _ _ ?_) _ _ ?_⟩
  ·rw [setCell_far _ _ _ _ ?_, setCell_far _ _ _ _ ?_, setCell_far _ _ _ _ ?_] <;> (show b ≠ w.heap.size; omega)
  ·rw [setCell_size, setCell_size, setCell_size]; exact Nat.le_refl _
  all_goals (show w.heap.size ≤ w.heap.size; omega)
set_option maxRecDepth 100000 in
set_option maxHeartbeats 1000000 in
theorem ownLevel_is (t : Lv) (v : Value) (w : World) (hv : LvV w t v) (hm : nodes t ≤ 1000) : Calls Tryz.prog 98 #[v] w (LvRet w t) := by
 obtain ⟨i0, hi0, hz0, hz1, hz2⟩ := info_parts infoLv
 obtain ⟨s, rfl, hs⟩ := hv
 obtain ⟨sa, sl, sc, rfl⟩ := lvS_slice hs
 have HSS := Lib.hid hs
 have HM := Lib.hid hm
 obtain ⟨k, hk⟩ : ∃ k, kindOf t = k := ⟨_, rfl⟩
 obtain ⟨n, hn⟩ : ∃ n, numOf t = n := ⟨_, rfl⟩
 rw [hk, hn]
 have HKK := Lib.hid hk
 have HNN := Lib.hid hn
 clear hs hm hk hn
 have z1 : (w.alloc (.cells #[.int .i64 k, .int .i64 n, .slice sa sl sc] 48)).heap.size = w.heap.size + 1 := by simp
 have z2 : ((w.alloc (.cells #[.int .i64 k, .int .i64 n, .slice sa sl sc] 48)).alloc (.cells #[.int .i64 0, .int .i64 0, .slice none 0 0] 48)).heap.size = w.heap.size + 1 + 1 := by simp
 have z3 : (((w.alloc (.cells #[.int .i64 k, .int .i64 n, .slice sa sl sc] 48)).alloc (.cells #[.int .i64 0, .int .i64 0, .slice none 0 0] 48)).alloc (.cells #[.int .i64 k, .int .i64 n, .slice sa sl sc] 48)).heap.size = w.heap.size + 1 + 1 + 1 := by simp
 have hr1 : ((w.alloc (.cells #[.int .i64 k, .int .i64 n, .slice sa sl sc] 48)).alloc (.cells #[.int .i64 0, .int .i64 0, .slice none 0 0] 48)).heap[w.heap.size + 1]? = some (Obj.cells #[.int .i64 0, .int .i64 0, .slice none 0 0] 48 (0, 0)) := row_2 w (.cells #[.int .i64 k, .int .i64 n, .slice sa sl sc] 48) (.cells #[.int .i64 0, .int .i64 0, .slice none 0 0] 48)
 have hr2 : (((w.alloc (.cells #[.int .i64 k, .int .i64 n, .slice sa sl sc] 48)).alloc (.cells #[.int .i64 0, .int .i64 0, .slice none 0 0] 48)).alloc (.cells #[.int .i64 k, .int .i64 n, .slice sa sl sc] 48)).heap[w.heap.size + 1 + 1]? = some (Obj.cells #[.int .i64 k, .int .i64 n, .slice sa sl sc] 48 (0, 0)) := by
  have := heap_alloc_new ((w.alloc (.cells #[.int .i64 k, .int .i64 n, .slice sa sl sc] 48)).alloc (.cells #[.int .i64 0, .int .i64 0, .slice none 0 0] 48)) (.cells #[.int .i64 k, .int .i64 n, .slice sa sl sc] 48)
  rwa [z2] at this
 have hr1' := (heap_alloc_old ((w.alloc (.cells #[.int .i64 k, .int .i64 n, .slice sa sl sc] 48)).alloc (.cells #[.int .i64 0, .int .i64 0, .slice none 0 0] 48)) (.cells #[.int .i64 k, .int .i64 n, .slice sa sl sc] 48) (r := w.heap.size + 1) (by rw [z2]; omega)).trans hr1
 have hb := below_2 w (.cells #[.int .i64 k, .int .i64 n, .slice sa sl sc] 48) (.cells #[.int .i64 0, .int .i64 0, .slice none 0 0] 48)
 have HB := Lib.hid (hb.trans ((below_lit ((w.alloc (.cells #[.int .i64 k, .int .i64 n, .slice sa sl sc] 48)).alloc (.cells #[.int .i64 0, .int .i64 0, .slice none 0 0] 48)) (.cells #[.int .i64 k, .int .i64 n, .slice sa sl sc] 48)).mono hb.size))
 have HR1 := Lib.hid hr1'
 have HR2 := Lib.hid hr2
 have HZ := Lib.hid z3
 go_enter Tryz.func98, Tryz.ntmps98
 go_wp2_with fail
 clear z1 z2 z3 hr1 hr2 hr1' hb
 generalize ((w.alloc (.cells #[.int .i64 k, .int .i64 n, .slice sa sl sc] 48)).alloc (.cells #[.int .i64 0, .int .i64 0, .slice none 0 0] 48)).alloc (.cells #[.int .i64 k, .int .i64 n, .slice sa sl sc] 48) = W at *
 have HSL : Hid (LsV W (some ⟨w.heap.size + 1 + 1, 0, none⟩) 0 [t]) := by
  have : LsV W (some ⟨w.heap.size + 1 + 1, 0, none⟩) 0 [t] := by
   rw [LsV, LsV]
   have hr := HR2.out
   rw [← HKK.out, ← HNN.out] at hr
   exact ⟨⟨_, 0, .slice sa sl sc, rfl, by rw [HZ.out]; omega, cell_of_row W _ 0 _ 48 (0, 0) hr, cell_of_row W _ 1 _ 48 (0, 0) hr, cell_of_row W _ 2 _ 48 (0, 0) hr, lvS_below HB.out _ _ HSS.out⟩, trivial⟩
  exact this
 refine (max1_is t _ W HSL.out HM.out).mono ?_
 rintro e wA ⟨s9, rfl, hs9, hb⟩
 rw [HKK.out, HNN.out]
 obtain ⟨va, vl, vc, rfl⟩ := lvP_slice hs9
 have HS9 := Lib.hid hs9
 have hrz := (hb.block (w.heap.size + 1) (by rw [HZ.out]; omega)).trans HR1.out
 have HBA := Lib.hid (HB.out.trans (hb.mono HB.out.size))
 have e0 := cell_of_row wA _ 0 _ 48 (0, 0) hrz
 have g0 := frozen0 (p := 0) hrz
 have e1 := cell_of_row wA _ 1 _ 48 (0, 0) hrz
 have g1 := frozen0 (p := 1) hrz
 have e2 := cell_of_row wA _ 2 _ 48 (0, 0) hrz
 have g2 := frozen0 (p := 2) hrz
 clear hb hs9
 go_wp2_with fail
 refine bodyPost_ret (results_cell_row rfl _ _ (w.heap.size + 1) 48 _ (0, 0) _ rfl (set3_row hrz) Tryz.underlying48 rfl (by rw [hi0, Option.map_some, hz1]; rfl)) rfl ?_
 have hzz := HZ.out
 refine ⟨_, by rw [HKK.out, HNN.out], lvP_move (w := wA) (fun b _ hp => ⟨by omega, ?_⟩) ?_ _ _ HS9.out, below_set (below_set (below_set HBA.out _ _ ?_) _ _ ?_) _ _ ?_⟩
 ·rw [setCell_far _ _ _ _ ?_, setCell_far _ _ _ _ ?_, setCell_far _ _ _ _ ?_] <;> (show b ≠ w.heap.size + 1; omega)
 ·rw [setCell_size, setCell_size, setCell_size]; exact Nat.le_refl _
 all_goals (show w.heap.size ≤ w.heap.size + 1; omega)
set_option maxRecDepth 100000 in
set_option maxHeartbeats 2000000 in
theorem eachl_own (g : Lv → Lv) (ts : List Lv) (A : Option Addr) (len cap : Nat) (w : World) (hl : ts.length = len) (hlc : len ≤ cap) (h1000 : len ≤ 100000) (hs : LsV w A 0 ts)
  (CE : ∀ w', Below w.heap.size w w' → ∀ a, a ∈ ts → ∀ v, LvV w' a v → Calls Tryz.prog 98 #[v] w' (LvRet w' (g a))) :
  Calls Tryz.prog 99 #[.slice A len cap, .func (.func 98) #[] #[]] w (fun e w' => ∃ V, e = .returned V ∧ OwnL w' w.heap.size V (ts.map g) ∧ Below w.heap.size w w') := by
 obtain ⟨i0, hi0, hz0, hz1, hz2⟩ := info_parts infoLv
 have HCE := Lib.hid CE
 have HS := Lib.hid hs
 have HN := Lib.hid hl
 have HUL : Hid ((ts.map g).length = len) := by
  have : (ts.map g).length = len := by rw [List.length_map, hl]
  exact this
 clear CE hs hl
 go_enter Tryz.func99, Tryz.ntmps99
 go_wp2_with fail
 go_loopw [5, 10] (fun V i wr => ∃ j : Nat, j ≤ len ∧ i = .int .i64 j ∧ OwnL wr w.heap.size V ((ts.map g).take j) ∧ Below w.heap.size w wr) (fun _ i _ => len - (intOf i).toNat)
 case atStart => exact ⟨0, Nat.zero_le _, rfl, ownL_nil _ _, Below.refl _ _⟩
 case round =>
  obtain ⟨j, hj, rfl, hown, hb⟩ := hrel
  have HOWN := Lib.hid hown
  have HBW := Lib.hid hb
  have HSW := Lib.hid (lsV_below hb _ _ _ HS.out)
  clear hown hb
  by_cases hlt : j < len
  ·have hx1 : j < ts.length := by rw [HN.out]; exact hlt
   have hln : decide ((j : Int) < (len : Int)) = true := by simp; omega
   obtain ⟨b, o, s, rfl, hbs, hc0, hc1, hc2, hls⟩ := lsV_get HSW.out j hx1
   obtain ⟨sa, sl, sc, rfl⟩ := lvS_slice hls
   have HLS : Hid (LvV wr ts[j] (.agg #[.int .i64 (kindOf ts[j]), .int .i64 (numOf ts[j]), .slice sa sl sc])) := ⟨_, rfl, hls⟩
   have HTK : Hid ((ts.map g).take (j + 1) = (ts.map g).take j ++ [g ts[j]]) := by
    have : (ts.map g).take (j + 1) = (ts.map g).take j ++ [g ts[j]] := by rw [List.take_add_one, List.getElem?_eq_getElem (by rw [List.length_map]; exact hx1), List.getElem_map]; rfl
    exact this
   have HME := Lib.hid (List.getElem_mem hx1)
   have q1 : (0 : Int) ≤ (j : Int) := by omega
   have q2 : (j : Int) < (len : Int) := by omega
   generalize kindOf ts[j] = ki at *
   generalize numOf ts[j] = nu at *
   generalize ts[j] = tj at *
   clear hls
   obtain ⟨ss, hsl, hso, hsk⟩ := HOWN.out
   have hjl : ((ts.map g).take j).length = j := by rw [List.length_take, HUL.out]; omega
   rw [hjl] at hso
   have HO := Lib.hid hso
   have HSL := Lib.hid hsl
   have HSK := Lib.hid hsk
   have HJL := Lib.hid hjl
   have hbo1 : j + 1 ≤ maxLen := by unfold maxLen; omega
   have hbo2 : (j + 1) * 40 ≤ 140737488355328 := by omega
   clear hso hsl hsk hjl
   go_wp2_with fail
   have hbl := below_lit wr (.cells #[.int .i64 ki, .int .i64 nu, .slice sa sl sc] 48)
   have HBL := Lib.hid hbl
   have HHL := Lib.hid (HLS.out.below hbl)
   generalize wr.alloc (.cells #[.int .i64 ki, .int .i64 nu, .slice sa sl sc] 48) = W1 at *
   clear hbl
   refine (HCE.out W1 (HBW.out.trans (HBL.out.mono HBW.out.size)) tj HME.out _ HHL.out).mono ?_
   rintro e wA ⟨s9, rfl, hs9, hbA⟩
   have HBA := Lib.hid (HBL.out.trans (hbA.mono HBL.out.size))
   have HS9 : Hid (LvP wA (fun b => wr.heap.size ≤ b) (g tj) s9) := lvP_move (w := wA) (w' := wA) (fun b _ hp => ⟨Nat.le_trans HBL.out.size hp, rfl⟩) (Nat.le_refl _) _ _ hs9
   obtain ⟨k9, hk9⟩ : ∃ k, kindOf (g tj) = k := ⟨_, rfl⟩
   obtain ⟨n9, hn9⟩ : ∃ n, numOf (g tj) = n := ⟨_, rfl⟩
   have HK9 := Lib.hid hk9
   have HN9 := Lib.hid hn9
   rw [hk9, hn9]
   have HBAS : Hid (w.heap.size ≤ wA.heap.size) := Nat.le_trans HBW.out.size HBA.out.size
   clear hs9 hbA hc0 hc1 hc2 hk9 hn9
   go_wp2_with (first | (refine wpList_append_lies _ rfl (.tmp 14) (.tmp 18) 22 rfl w.heap.size 48 i0 (.agg #[.int .i64 0, .int .i64 0, .slice none 0 0]) 3 40 Tryz.underlying22 hi0 hz0 hz1 hz2 rfl (by decide) u5 j (cells3 ((ts.map g).take j) ss) (by simp [Act.eval]) (own_alloc (own_below HO.out HBA.out) _) ⟨wA.heap.size, 0, none⟩ 1 1 [.int .i64 k9, .int .i64 n9, s9] (by simp [Act.eval]) rfl (World.news_of_block (heap_alloc_new wA _)) (three_oneCell (lvP_one HS9.out)) (by decide) hbo1 hbo2 (by have := HBAS.out; simp; omega) (wA.heap.size + 1) (by simp) ?_; intro g9 cap' w2 hown2 hgrow hat hlt2))
   have hA : Below w.heap.size w wA := HBW.out.trans (HBA.out.mono HBW.out.size)
   refine ⟨⟨j + 1, by omega, by go_num, ?_, (hA.alloc hA.size _).grown hgrow (by have := hA.size; simp; omega) (fun k e => own_block HO.out k e)⟩, by simp [intOf]; omega⟩
   have hst := ownL_step (w0 := wr) (w1 := wA) (w2 := w2) (base := w.heap.size) (V := u5) (ts := (ts.map g).take j) (ss := ss) (a := g tj) (s := s9) (H := wA.heap.size + 1) (O := .cells #[.int .i64 k9, .int .i64 n9, s9] 48) (g := g9) (cap := cap') HSL.out (by rw [HJL.out]; exact HO.out) HSK.out HBW.out.size HBA.out HS9.out (by simp) (by rw [HJL.out, HK9.out, HN9.out]; exact hown2) hgrow hat
   rw [HJL.out] at hst
   rw [HTK.out]
   exact hst
  ·obtain rfl : j = len := by omega
   have hln : decide ((j : Int) < (j : Int)) = false := by simp
   have HF : Hid ((ts.map g).take j = ts.map g) := by
    have : (ts.map g).take j = ts.map g := List.take_of_length_le (by rw [HUL.out]; exact Nat.le_refl _)
    exact this
   go_wp2_with fail
   go_ret
   exact ⟨_, rfl, by rw [← HF.out]; exact HOWN.out, HBW.out⟩
theorem eachl_all (ls : List Lv) (l : Value) (w : World) (P : Nat → Prop) (h : LvP w P (.mk 0 0 ls) l) (hn : ls.length ≤ 100000) (hm : ∀ a, a ∈ ls → nodes a ≤ 1000) :
  Calls Tryz.prog 99 #[l, .func (.func 98) #[] #[]] w (fun e w' => ∃ V, e = .returned V ∧ OwnL w' w.heap.size V ls ∧ Below w.heap.size w w') := by
 have h2 := lvS_of _ _ h
 rw [LvS] at h2
 obtain ⟨A, len, cap, rfl, h1, hlc, _, _, hs⟩ := h2
 have := eachl_own id ls A len cap w h1 hlc (by omega) hs (fun w' _ a ha v hv => ownLevel_is a v w' hv (hm a ha))
 rwa [List.map_id] at this
end Trm
end Go.Proofs.YteomfakbbcpckaaGreatDoor
namespace Go.Proofs.YteomfakbbcpckaaGreatDoor
open Lvl
namespace Trm
def bndP (k : Int) (m i : Nat) : Nat := if (k = 5 ∨ k = 6 ∨ k = 7) ∧ i + 1 = m then 1 else 0
theorem bndP_le (k : Int) (m i : Nat) : bndP k m i ≤ 1 := by
 unfold bndP
 split <;> omega
mutual
def pre : Tm → Nat → Nat → List (Tm × Nat × Nat)
 | .mk k n m ls ts, d, b => (.mk k n m ls ts, d, b) :: preL k ts.length ts 0 (d + 1) b
def preL (k : Int) (len : Nat) : List Tm → Nat → Nat → Nat → List (Tm × Nat × Nat)
 | [], _, _, _ => []
 | a :: ts, i, d, b => pre a d (b + bndP k len i) ++ preL k len ts (i + 1) d b
end
theorem preL_append (k : Int) (len : Nat) : ∀ (l r : List Tm) (i d b : Nat), preL k len (l ++ r) i d b = preL k len l i d b ++ preL k len r (i + l.length) d b
 | [], r, i, d, b => by rw [List.nil_append, preL, List.nil_append, List.length_nil, Nat.add_zero]
 | a :: l, r, i, d, b => by
  rw [List.cons_append, preL, preL, preL_append k len l r, List.append_assoc, List.length_cons, show i + 1 + l.length = i + (l.length + 1) by omega]
theorem preL_take (k : Int) (len : Nat) {ts : List Tm} {j : Nat} (h : j < ts.length) (d b : Nat) : preL k len (ts.take (j + 1)) 0 d b = preL k len (ts.take j) 0 d b ++ pre ts[j] d (b + bndP k len j) := by
 rw [List.take_add_one, List.getElem?_eq_getElem h, preL_append, Nat.zero_add, List.length_take, Nat.min_eq_left (by omega)]
 simp [preL]
mutual
theorem pre_len : ∀ (t : Tm) (d b : Nat), (pre t d b).length ≤ tnodes t
 | .mk k n m ls ts, d, b => by
  rw [pre, tnodes, List.length_cons]
  have := preL_len k ts.length ts 0 (d + 1) b
  omega
theorem preL_len (k : Int) (len : Nat) : ∀ (ts : List Tm) (i d b : Nat), (preL k len ts i d b).length ≤ tnodesL ts
 | [], _, _, _ => by rw [preL, List.length_nil]; omega
 | a :: ts, i, d, b => by
  rw [preL, tnodesL, List.length_append]
  have := pre_len a d (b + bndP k len i)
  have := preL_len k len ts (i + 1) d b
  omega
end
theorem preL_pfx (k : Int) (len : Nat) (ts : List Tm) (j d b : Nat) : preL k len (ts.take j) 0 d b <+: preL k len ts 0 d b := by
 have := preL_append k len (ts.take j) (ts.drop j) 0 d b
 rw [List.take_append_drop] at this
 exact ⟨_, this.symm⟩
theorem pre_head (t : Tm) (d b : Nat) : (t, d, b) ∈ pre t d b := by
 cases t
 rw [pre]
 exact List.mem_cons_self
end Trm
end Go.Proofs.YteomfakbbcpckaaGreatDoor
namespace Go.Proofs.YteomfakbbcpckaaGreatDoor
open Go.RowKit
open Lvl
namespace Lvl
end Lvl
end Go.Proofs.YteomfakbbcpckaaGreatDoor
namespace Go.Proofs.YteomfakbbcpckaaGreatDoor
open Go.RowKit
open Lvl
set_option maxRecDepth 100000 in
set_option maxHeartbeats 1000000 in
theorem twrong_is (t : Lv) (v : Value) (w : World) (hv : LvV w t v) (hm : nodes t ≤ 100000) (nn : Int) (Bn : Nat) (hn : w.cell? ⟨Bn, 0, none⟩ = some (.int .i64 nn)) (b : Bool) (hb : rightB nn t = b) :
  Calls Tryz.prog 124 #[v, .pointer (some ⟨Bn, 0, none⟩)] w (Ret w (.bool (!b))) := by
 obtain ⟨s, rfl, hs⟩ := hv
 have HVT := Lib.hid (show LvV w t _ from ⟨s, rfl, hs⟩)
 have HR := Lib.hid hb
 have HM := Lib.hid hm
 have hlt : Bn < w.heap.size := World.block_lt_of_cell? w ⟨Bn, 0, none⟩ hn
 generalize kindOf t = k at *
 generalize numOf t = n at *
 clear hs hb hm
 have hn2 : (w.alloc (.cells #[.int .i64 k, .int .i64 n, s] 48)).cell? ⟨Bn, 0, none⟩ = some (.int .i64 nn) := ((below_lit w _).cell (p := ⟨Bn, 0, none⟩) hlt).trans hn
 clear hlt hn
 go_enter Tryz.func124, Tryz.ntmps124
 go_wp2_with fail
 have HB := Lib.hid (below_lit w (.cells #[.int .i64 k, .int .i64 n, s] 48))
 generalize w.alloc (.cells #[.int .i64 k, .int .i64 n, s] 48) = W at *
 refine (right_any t _ nn W (HVT.out.below HB.out) HM.out b HR.out).mono ?_
 rintro e w2 ⟨rfl, hb⟩
 have HB2 := Lib.hid (HB.out.trans (hb.mono HB.out.size))
 clear hb
 go_wp2_with fail
 go_ret
 exact ⟨by first | rfl | (cases b <;> rfl), HB2.out⟩
set_option maxRecDepth 100000 in
set_option maxHeartbeats 2000000 in
theorem tindex_is (nn : Int) (Bn : Nat) (bs : List Lv) (A : Option Addr) (len cap : Nat) (w : World) (hl : bs.length = len) (hlc : len ≤ cap) (hl7 : len ≤ 140737488355328) (hs : LsV w A 0 bs) (hm : ∀ b ∈ bs, nodes b ≤ 100000) (hn : w.cell? ⟨Bn, 0, none⟩ = some (.int .i64 nn)) :
  Calls Tryz.prog 143 #[.slice A len cap, .func (.func 124) #[] #[.pointer (some ⟨Bn, 0, none⟩)]] w (fun e w' => ∃ r : Int, e = .returned (.int .i64 r) ∧ (-1 ≤ r ∧ r < 140737488355328) ∧ decide (0 ≤ r) = !(bs.all (rightB nn)) ∧ Below w.heap.size w w') := by
 have HS := Lib.hid hs
 have HN := Lib.hid hl
 have HM := Lib.hid hm
 have HNN := Lib.hid hn
 have HLT := Lib.hid (show Bn < w.heap.size from World.block_lt_of_cell? w ⟨Bn, 0, none⟩ hn)
 clear hs hl hm hn
 go_enter Tryz.func143, Tryz.ntmps143
 go_wp2_with fail
 go_loopw [8] (fun i wr => ∃ j : Nat, j ≤ len ∧ i = .int .i64 j ∧ Hid ((bs.take j).all (rightB nn) = true) ∧ Below w.heap.size w wr) (fun i _ => len - (intOf i).toNat)
 case atStart => exact ⟨0, Nat.zero_le _, rfl, by have : (bs.take 0).all (rightB nn) = true := (by simp); exact this, Below.refl _ _⟩
 case round =>
  obtain ⟨j, hj, rfl, hal, hb⟩ := hrel
  have HBW := Lib.hid hb
  have HSW := Lib.hid (lsV_below hb _ _ _ HS.out)
  clear hb
  by_cases hlt : j < len
  ·have hx1 : j < bs.length := by rw [HN.out]; exact hlt
   have hln : decide ((j : Int) < (len : Int)) = true := by simp; omega
   obtain ⟨b, o, s, rfl, hbs, hc0, hc1, hc2, hls⟩ := lsV_get HSW.out j hx1
   have HLS : Hid (LvV wr bs[j] (.agg #[.int .i64 (kindOf bs[j]), .int .i64 (numOf bs[j]), s])) := ⟨_, rfl, hls⟩
   have HTK := Lib.hid (show bs.take (j + 1) = bs.take j ++ [bs[j]] by rw [List.take_add_one, List.getElem?_eq_getElem hx1]; rfl)
   have HME := Lib.hid (show bs[j] ∈ bs from List.getElem_mem hx1)
   have q1 : (0 : Int) ≤ (j : Int) := by omega
   have q2 : (j : Int) < (len : Int) := by omega
   generalize kindOf bs[j] = ki at *
   generalize numOf bs[j] = nu at *
   generalize bs[j] = tj at *
   obtain ⟨r, hr⟩ : ∃ r, rightB nn tj = r := ⟨_, rfl⟩
   have HR := Lib.hid hr
   clear hls hr
   go_wp2_with fail
   refine (twrong_is tj _ wr HLS.out (HM.out _ HME.out) nn Bn ((HBW.out.cell (p := ⟨Bn, 0, none⟩) HLT.out).trans HNN.out) r HR.out).mono ?_
   rintro e w2 ⟨rfl, hb2⟩
   have HB2 := Lib.hid (HBW.out.trans (hb2.mono HBW.out.size))
   clear hb2 hc0 hc1 hc2
   cases r
   ·have HF : Hid (bs.all (rightB nn) = false) := by
     have : bs.all (rightB nn) = false := by
      rw [List.all_eq_false]
      exact ⟨tj, HME.out, by rw [HR.out]; simp⟩
     exact this
    go_wp2_with fail
    go_ret
    exact ⟨(j : Int), rfl, ⟨by omega, by omega⟩, by rw [HF.out]; simp, HB2.out⟩
   ·have HAL : Hid ((bs.take (j + 1)).all (rightB nn) = true) := by
     have : (bs.take (j + 1)).all (rightB nn) = true := by rw [HTK.out, List.all_append, hal.out, List.all_cons, HR.out]; rfl
     exact this
    go_wp2_with fail
    go_roundw
    case rel => exact ⟨j + 1, by omega, by go_num, HAL, HB2.out⟩
    case measure => simp [intOf]; omega
  ·obtain rfl : j = len := by omega
   have hln : decide ((j : Int) < (j : Int)) = false := by simp
   have HF : Hid (bs.all (rightB nn) = true) := by
    have := hal.out
    rw [List.take_of_length_le (by rw [HN.out]; exact Nat.le_refl _)] at this
    exact this
   go_wp2_with fail
   go_ret
   exact ⟨-1, rfl, ⟨by omega, by omega⟩, by rw [HF.out]; rfl, HBW.out⟩
set_option maxRecDepth 100000 in
set_option maxHeartbeats 1000000 in
theorem tcontains_is (nn : Int) (Bn : Nat) (bs : List Lv) (A : Option Addr) (len cap : Nat) (w : World) (hl : bs.length = len) (hlc : len ≤ cap) (hl7 : len ≤ 140737488355328) (hs : LsV w A 0 bs) (hm : ∀ b ∈ bs, nodes b ≤ 100000) (hn : w.cell? ⟨Bn, 0, none⟩ = some (.int .i64 nn)) (b : Bool) (hb : bs.all (rightB nn) = b) :
  Calls Tryz.prog 125 #[.slice A len cap, .func (.func 124) #[] #[.pointer (some ⟨Bn, 0, none⟩)]] w (Ret w (.bool (!b))) := by
 have CI := Lib.hid (tindex_is nn Bn bs A len cap w hl hlc hl7 hs hm hn)
 rw [hb] at CI
 clear hl hs hm hn hb
 go_enter Tryz.func125, Tryz.ntmps125
 go_wp2_with fail
 refine CI.out.mono ?_
 rintro e w9 ⟨r, rfl, ⟨h1, h2⟩, h3, hb⟩
 have HB9 := Lib.hid hb
 clear hb
 go_wp2_with fail
 go_ret
 exact ⟨by first | rfl | (rw [h3]), HB9.out⟩
end Go.Proofs.YteomfakbbcpckaaGreatDoor
namespace Go.Proofs.YteomfakbbcpckaaGreatDoor
open Go.RowKit
open Lvl
namespace Trm
theorem isEmpty_yes {m : ByteArray} (h : m.size = 0) : m.toList.isEmpty = true := by
 rw [ByteArray.toList_eq]
 have : m.data.toList.length = 0 := h
 cases hh : m.data.toList with
 | nil => rfl
 | cons a l => rw [hh] at this; simp at this
theorem isEmpty_no {m : ByteArray} (h : ¬ m.size = 0) : m.toList.isEmpty = false := by
 rw [ByteArray.toList_eq]
 have : ¬ m.data.toList.length = 0 := h
 cases hh : m.data.toList with
 | nil => rw [hh] at this; simp at this
 | cons a l => rfl
set_option maxRecDepth 100000 in
set_option maxHeartbeats 8000000 in
theorem fits_is (kd n : Int) (m : ByteArray) (ls : List Lv) (la : Option Addr) (ll lc : Nat) (sa : Option Addr) (sl sc : Nat) (nn kk : Int) (w : World) (rn : Bool)
  (hls : LvS w (.mk 0 0 ls) (.slice la ll lc)) (hm : nodesL ls ≤ 100000) (CN : Hid (∀ w', Below w.heap.size w w' → Calls Tryz.prog 126 #[.string m] w' (Ret w' (.bool rn)))) (b : Bool) (hb : shape (fun _ => rn) (rightB nn) kd n m ls sl kk = b) :
  Calls Tryz.prog 90 #[.agg #[.int .i64 kd, .int .i64 n, .string m, .slice la ll lc, .slice sa sl sc], .int .i64 nn, .int .i64 kk] w (Ret w (.bool b)) := by
 rw [LvS] at hls
 obtain ⟨A, len, cap, e9, h1, h2, h2b, h3, h4⟩ := hls
 cases e9
 have HV := Lib.hid hb
 obtain ⟨ra, hra⟩ : ∃ r, ls.all (rightB nn) = r := ⟨_, rfl⟩
 have HRA := Lib.hid hra
 have HLL := Lib.hid h1
 have HM : Hid (∀ a ∈ ls, nodes a ≤ 100000) := by
  have : ∀ a ∈ ls, nodes a ≤ 100000 := fun a ha => Nat.le_trans (nodes_mem ha) hm
  exact this
 have b2 := below_lit w (.cells #[.int .i64 kd, .int .i64 n, .string m, .slice la ll lc, .slice sa sl sc] 25)
 have b3 := b2.trans ((below_lit (w.alloc (.cells #[.int .i64 kd, .int .i64 n, .string m, .slice la ll lc, .slice sa sl sc] 25)) (.cells #[.int .i64 nn] 3)).mono b2.size)
 have z1 : (w.alloc (.cells #[.int .i64 kd, .int .i64 n, .string m, .slice la ll lc, .slice sa sl sc] 25)).heap.size = w.heap.size + 1 := by simp
 have z2 : ((w.alloc (.cells #[.int .i64 kd, .int .i64 n, .string m, .slice la ll lc, .slice sa sl sc] 25)).alloc (.cells #[.int .i64 nn] 3)).heap.size = w.heap.size + 1 + 1 := by simp
 have r1 := heap_alloc_new w (.cells #[.int .i64 kd, .int .i64 n, .string m, .slice la ll lc, .slice sa sl sc] 25)
 have r1' := (heap_alloc_old (w.alloc (.cells #[.int .i64 kd, .int .i64 n, .string m, .slice la ll lc, .slice sa sl sc] 25)) (.cells #[.int .i64 nn] 3) (r := w.heap.size) (by simp)).trans r1
 have r2 := heap_alloc_new (w.alloc (.cells #[.int .i64 kd, .int .i64 n, .string m, .slice la ll lc, .slice sa sl sc] 25)) (.cells #[.int .i64 nn] 3)
 rw [z1] at r2
 have r3 := cell_of_row _ _ 0 _ 3 (0, 0) r2
 have HC := Lib.hid (tcontains_is nn (w.heap.size + 1) ls la ll lc ((w.alloc (.cells #[.int .i64 kd, .int .i64 n, .string m, .slice la ll lc, .slice sa sl sc] 25)).alloc (.cells #[.int .i64 nn] 3)) h1 h2 h2b (lsV_below b3 _ _ _ h4) HM.out r3 ra hra)
 have HB3 := Lib.hid b3
 have HZ2 := Lib.hid z2
 have HR1 := Lib.hid r1'
 clear b2 b3 z1 z2 r1 r1' r2 r3 h1 h3 h4 hm hb hra
 go_enter Tryz.func90, Tryz.ntmps90
 go_wp2_with fail
 generalize (w.alloc (.cells #[.int .i64 kd, .int .i64 n, .string m, .slice la ll lc, .slice sa sl sc] 25)).alloc (.cells #[.int .i64 nn] 3) = W2 at *
 refine HC.out.mono ?_
 rintro e w9 ⟨rfl, hb9⟩
 have HB9 := Lib.hid (HB3.out.trans (hb9.mono HB3.out.size))
 have hz9 : w.heap.size < w9.heap.size := by have := hb9.size; have := HZ2.out; omega
 obtain ⟨c0, c1, c2, c3, c4⟩ := five_cells ((hb9.block w.heap.size (by rw [HZ2.out]; omega)).trans HR1.out)
 have hlen := HLL.out
 have hall := HRA.out
 clear hb9 HC HB3 HR1
 cases ra
 ·have HF : Hid (b = false) := by
   have : b = false := by rw [← HV.out]; simp [shape, hall]
   exact this
  go_wp2_with fail
  go_ret
  exact ⟨by rw [HF.out]; rfl, HB9.out⟩
 ·by_cases k1 : kd = 1
  ·subst k1
   by_cases q5 : 0 ≤ n
   ·have h0 : decide ((0 : Int) ≤ n) = true := by simp; omega
    by_cases q4 : n < kk
    ·have h1 : decide (n < kk) = true := by simp; omega
     by_cases q3 : m.size = 0
     ·have hnm : m.toList.isEmpty = true := isEmpty_yes q3
      by_cases q2 : ll = 0
      ·have hll : ((ll : Int) == 0) = true := by simp; omega
       by_cases q1 : sl = 0
       ·have hsl : ((sl : Int) == 0) = true := by simp; omega
        have HF : Hid (b = true) := by
         have : b = true := by rw [← HV.out]; simp [shape, *]
         exact this
        go_wp2_with fail
        go_quiet (fail)
        go_wp2_with fail
        go_ret
        exact ⟨by rw [HF.out]; rfl, HB9.out.trans ((quietBelow _ _).mono HB9.out.size)⟩
       ·have hsl : ((sl : Int) == 0) = false := by simp; omega
        have HF : Hid (b = false) := by
         have : b = false := by rw [← HV.out]; simp [shape, *]
         exact this
        go_wp2_with fail
        go_quiet (fail)
        go_wp2_with fail
        go_ret
        exact ⟨by rw [HF.out]; rfl, HB9.out.trans ((quietBelow _ _).mono HB9.out.size)⟩
      ·have hll : ((ll : Int) == 0) = false := by simp; omega
       have HF : Hid (b = false) := by
        have : b = false := by rw [← HV.out]; simp [shape, *]
        exact this
       go_wp2_with fail
       go_quiet (fail)
       go_wp2_with fail
       go_ret
       exact ⟨by rw [HF.out]; rfl, HB9.out.trans ((quietBelow _ _).mono HB9.out.size)⟩
     ·have hnm : m.toList.isEmpty = false := isEmpty_no q3
      have HF : Hid (b = false) := by
       have : b = false := by rw [← HV.out]; simp [shape, *]
       exact this
      go_wp2_with fail
      go_quiet (fail)
      go_wp2_with fail
      go_ret
      exact ⟨by rw [HF.out]; rfl, HB9.out.trans ((quietBelow _ _).mono HB9.out.size)⟩
    ·have h1 : decide (n < kk) = false := by simp; omega
     have HF : Hid (b = false) := by
      have : b = false := by rw [← HV.out]; simp [shape, *]
      exact this
     go_wp2_with fail
     go_quiet (fail)
     go_wp2_with fail
     go_ret
     exact ⟨by rw [HF.out]; rfl, HB9.out.trans ((quietBelow _ _).mono HB9.out.size)⟩
   ·have h0 : decide ((0 : Int) ≤ n) = false := by simp; omega
    have HF : Hid (b = false) := by
     have : b = false := by rw [← HV.out]; simp [shape, *]
     exact this
    go_wp2_with fail
    go_quiet (fail)
    go_wp2_with fail
    go_ret
    exact ⟨by rw [HF.out]; rfl, HB9.out.trans ((quietBelow _ _).mono HB9.out.size)⟩
  ·by_cases k2 : kd = 2
   ·subst k2
    by_cases q4 : n = 0
    ·have hn0 : (n == 0) = true := by simp; omega
     by_cases q3 : m.size = 0
     ·have hnm : m.toList.isEmpty = true := isEmpty_yes q3
      by_cases q2 : ll = 1
      ·have hll : ((ll : Int) == 1) = true := by simp; omega
       by_cases q1 : sl = 0
       ·have hsl : ((sl : Int) == 0) = true := by simp; omega
        have HF : Hid (b = true) := by
         have : b = true := by rw [← HV.out]; simp [shape, *]
         exact this
        go_wp2_with fail
        go_quiet (fail)
        go_wp2_with fail
        go_ret
        exact ⟨by rw [HF.out]; rfl, HB9.out.trans ((quietBelow _ _).mono HB9.out.size)⟩
       ·have hsl : ((sl : Int) == 0) = false := by simp; omega
        have HF : Hid (b = false) := by
         have : b = false := by rw [← HV.out]; simp [shape, *]
         exact this
        go_wp2_with fail
        go_quiet (fail)
        go_wp2_with fail
        go_ret
        exact ⟨by rw [HF.out]; rfl, HB9.out.trans ((quietBelow _ _).mono HB9.out.size)⟩
      ·have hll : ((ll : Int) == 1) = false := by simp; omega
       have HF : Hid (b = false) := by
        have : b = false := by rw [← HV.out]; simp [shape, *]
        exact this
       go_wp2_with fail
       go_quiet (fail)
       go_wp2_with fail
       go_ret
       exact ⟨by rw [HF.out]; rfl, HB9.out.trans ((quietBelow _ _).mono HB9.out.size)⟩
     ·have hnm : m.toList.isEmpty = false := isEmpty_no q3
      have HF : Hid (b = false) := by
       have : b = false := by rw [← HV.out]; simp [shape, *]
       exact this
      go_wp2_with fail
      go_quiet (fail)
      go_wp2_with fail
      go_ret
      exact ⟨by rw [HF.out]; rfl, HB9.out.trans ((quietBelow _ _).mono HB9.out.size)⟩
    ·have hn0 : (n == 0) = false := by simp; omega
     have HF : Hid (b = false) := by
      have : b = false := by rw [← HV.out]; simp [shape, *]
      exact this
     go_wp2_with fail
     go_quiet (fail)
     go_wp2_with fail
     go_ret
     exact ⟨by rw [HF.out]; rfl, HB9.out.trans ((quietBelow _ _).mono HB9.out.size)⟩
   ·by_cases k3 : kd = 3
    ·subst k3
     by_cases q9 : n = 0
     ·have hn0 : (n == 0) = true := by simp; omega
      go_wp2_with fail
      go_quiet (fail)
      go_wp2_with fail
      refine (CN.out _ (HB9.out.trans ((quietBelow _ _).mono HB9.out.size))).mono ?_
      rintro e w8 ⟨rfl, hb8⟩
      have HB8 := Lib.hid (HB9.out.trans (((quietBelow _ _).trans hb8).mono HB9.out.size))
      clear hb8
      cases rn
      ·have HF : Hid (b = false) := by
        have : b = false := by rw [← HV.out]; simp [shape, *]
        exact this
       go_wp2_with fail
       go_ret
       exact ⟨by rw [HF.out]; rfl, HB8.out⟩
      ·by_cases q2 : ll ≤ 4
       ·have hll : decide ((ll : Int) ≤ 4) = true := by simp; omega
        by_cases q1 : sl = 0
        ·have hsl : ((sl : Int) == 0) = true := by simp; omega
         have HF : Hid (b = true) := by
          have : b = true := by rw [← HV.out]; simp [shape, *]
          exact this
         go_wp2_with fail
         go_ret
         exact ⟨by rw [HF.out]; rfl, HB8.out⟩
        ·have hsl : ((sl : Int) == 0) = false := by simp; omega
         have HF : Hid (b = false) := by
          have : b = false := by rw [← HV.out]; simp [shape, *]
          exact this
         go_wp2_with fail
         go_ret
         exact ⟨by rw [HF.out]; rfl, HB8.out⟩
       ·have hll : decide ((ll : Int) ≤ 4) = false := by simp; omega
        have HF : Hid (b = false) := by
         have : b = false := by rw [← HV.out]; simp [shape, *]
         exact this
        go_wp2_with fail
        go_ret
        exact ⟨by rw [HF.out]; rfl, HB8.out⟩
     ·have hn0 : (n == 0) = false := by simp; omega
      have HF : Hid (b = false) := by
       have : b = false := by rw [← HV.out]; simp [shape, *]
       exact this
      go_wp2_with fail
      go_quiet (fail)
      go_wp2_with fail
      go_ret
      exact ⟨by rw [HF.out]; rfl, HB9.out.trans ((quietBelow _ _).mono HB9.out.size)⟩
    ·by_cases k4 : kd = 4
     ·subst k4
      by_cases q4 : n = 0
      ·have hn0 : (n == 0) = true := by simp; omega
       by_cases q3 : m.size = 0
       ·have hnm : m.toList.isEmpty = true := isEmpty_yes q3
        by_cases q2 : ll = 0
        ·have hll : ((ll : Int) == 0) = true := by simp; omega
         by_cases q1 : sl = 2
         ·have hsl : ((sl : Int) == 2) = true := by simp; omega
          have HF : Hid (b = true) := by
           have : b = true := by rw [← HV.out]; simp [shape, *]
           exact this
          go_wp2_with fail
          go_quiet (fail)
          go_wp2_with fail
          go_ret
          exact ⟨by rw [HF.out]; rfl, HB9.out.trans ((quietBelow _ _).mono HB9.out.size)⟩
         ·have hsl : ((sl : Int) == 2) = false := by simp; omega
          have HF : Hid (b = false) := by
           have : b = false := by rw [← HV.out]; simp [shape, *]
           exact this
          go_wp2_with fail
          go_quiet (fail)
          go_wp2_with fail
          go_ret
          exact ⟨by rw [HF.out]; rfl, HB9.out.trans ((quietBelow _ _).mono HB9.out.size)⟩
        ·have hll : ((ll : Int) == 0) = false := by simp; omega
         have HF : Hid (b = false) := by
          have : b = false := by rw [← HV.out]; simp [shape, *]
          exact this
         go_wp2_with fail
         go_quiet (fail)
         go_wp2_with fail
         go_ret
         exact ⟨by rw [HF.out]; rfl, HB9.out.trans ((quietBelow _ _).mono HB9.out.size)⟩
       ·have hnm : m.toList.isEmpty = false := isEmpty_no q3
        have HF : Hid (b = false) := by
         have : b = false := by rw [← HV.out]; simp [shape, *]
         exact this
        go_wp2_with fail
        go_quiet (fail)
        go_wp2_with fail
        go_ret
        exact ⟨by rw [HF.out]; rfl, HB9.out.trans ((quietBelow _ _).mono HB9.out.size)⟩
      ·have hn0 : (n == 0) = false := by simp; omega
       have HF : Hid (b = false) := by
        have : b = false := by rw [← HV.out]; simp [shape, *]
        exact this
       go_wp2_with fail
       go_quiet (fail)
       go_wp2_with fail
       go_ret
       exact ⟨by rw [HF.out]; rfl, HB9.out.trans ((quietBelow _ _).mono HB9.out.size)⟩
     ·by_cases k5 : kd = 5
      ·subst k5
       by_cases q4 : n = 0
       ·have hn0 : (n == 0) = true := by simp; omega
        by_cases q3 : m.size = 0
        ·have hnm : m.toList.isEmpty = true := isEmpty_yes q3
         by_cases q2 : ll = 0
         ·have hll : ((ll : Int) == 0) = true := by simp; omega
          by_cases q1 : sl = 2
          ·have hsl : ((sl : Int) == 2) = true := by simp; omega
           have HF : Hid (b = true) := by
            have : b = true := by rw [← HV.out]; simp [shape, *]
            exact this
           go_wp2_with fail
           go_quiet (fail)
           go_wp2_with fail
           go_ret
           exact ⟨by rw [HF.out]; rfl, HB9.out.trans ((quietBelow _ _).mono HB9.out.size)⟩
          ·have hsl : ((sl : Int) == 2) = false := by simp; omega
           have HF : Hid (b = false) := by
            have : b = false := by rw [← HV.out]; simp [shape, *]
            exact this
           go_wp2_with fail
           go_quiet (fail)
           go_wp2_with fail
           go_ret
           exact ⟨by rw [HF.out]; rfl, HB9.out.trans ((quietBelow _ _).mono HB9.out.size)⟩
         ·have hll : ((ll : Int) == 0) = false := by simp; omega
          have HF : Hid (b = false) := by
           have : b = false := by rw [← HV.out]; simp [shape, *]
           exact this
          go_wp2_with fail
          go_quiet (fail)
          go_wp2_with fail
          go_ret
          exact ⟨by rw [HF.out]; rfl, HB9.out.trans ((quietBelow _ _).mono HB9.out.size)⟩
        ·have hnm : m.toList.isEmpty = false := isEmpty_no q3
         have HF : Hid (b = false) := by
          have : b = false := by rw [← HV.out]; simp [shape, *]
          exact this
         go_wp2_with fail
         go_quiet (fail)
         go_wp2_with fail
         go_ret
         exact ⟨by rw [HF.out]; rfl, HB9.out.trans ((quietBelow _ _).mono HB9.out.size)⟩
       ·have hn0 : (n == 0) = false := by simp; omega
        have HF : Hid (b = false) := by
         have : b = false := by rw [← HV.out]; simp [shape, *]
         exact this
        go_wp2_with fail
        go_quiet (fail)
        go_wp2_with fail
        go_ret
        exact ⟨by rw [HF.out]; rfl, HB9.out.trans ((quietBelow _ _).mono HB9.out.size)⟩
      ·by_cases k6 : kd = 6
       ·subst k6
        by_cases q4 : n = 0
        ·have hn0 : (n == 0) = true := by simp; omega
         by_cases q3 : m.size = 0
         ·have hnm : m.toList.isEmpty = true := isEmpty_yes q3
          by_cases q2 : ll = 0
          ·have hll : ((ll : Int) == 0) = true := by simp; omega
           by_cases q1 : sl = 2
           ·have hsl : ((sl : Int) == 2) = true := by simp; omega
            have HF : Hid (b = true) := by
             have : b = true := by rw [← HV.out]; simp [shape, *]
             exact this
            go_wp2_with fail
            go_quiet (fail)
            go_wp2_with fail
            go_ret
            exact ⟨by rw [HF.out]; rfl, HB9.out.trans ((quietBelow _ _).mono HB9.out.size)⟩
           ·have hsl : ((sl : Int) == 2) = false := by simp; omega
            have HF : Hid (b = false) := by
             have : b = false := by rw [← HV.out]; simp [shape, *]
             exact this
            go_wp2_with fail
            go_quiet (fail)
            go_wp2_with fail
            go_ret
            exact ⟨by rw [HF.out]; rfl, HB9.out.trans ((quietBelow _ _).mono HB9.out.size)⟩
          ·have hll : ((ll : Int) == 0) = false := by simp; omega
           have HF : Hid (b = false) := by
            have : b = false := by rw [← HV.out]; simp [shape, *]
            exact this
           go_wp2_with fail
           go_quiet (fail)
           go_wp2_with fail
           go_ret
           exact ⟨by rw [HF.out]; rfl, HB9.out.trans ((quietBelow _ _).mono HB9.out.size)⟩
         ·have hnm : m.toList.isEmpty = false := isEmpty_no q3
          have HF : Hid (b = false) := by
           have : b = false := by rw [← HV.out]; simp [shape, *]
           exact this
          go_wp2_with fail
          go_quiet (fail)
          go_wp2_with fail
          go_ret
          exact ⟨by rw [HF.out]; rfl, HB9.out.trans ((quietBelow _ _).mono HB9.out.size)⟩
        ·have hn0 : (n == 0) = false := by simp; omega
         have HF : Hid (b = false) := by
          have : b = false := by rw [← HV.out]; simp [shape, *]
          exact this
         go_wp2_with fail
         go_quiet (fail)
         go_wp2_with fail
         go_ret
         exact ⟨by rw [HF.out]; rfl, HB9.out.trans ((quietBelow _ _).mono HB9.out.size)⟩
       ·by_cases k7 : kd = 7
        ·subst k7
         by_cases q4 : n = 0
         ·have hn0 : (n == 0) = true := by simp; omega
          by_cases q3 : m.size = 0
          ·have hnm : m.toList.isEmpty = true := isEmpty_yes q3
           by_cases q2 : ll = 0
           ·have hll : ((ll : Int) == 0) = true := by simp; omega
            by_cases q1 : sl = 3
            ·have hsl : ((sl : Int) == 3) = true := by simp; omega
             have HF : Hid (b = true) := by
              have : b = true := by rw [← HV.out]; simp [shape, *]
              exact this
             go_wp2_with fail
             go_quiet (fail)
             go_wp2_with fail
             go_ret
             exact ⟨by rw [HF.out]; rfl, HB9.out.trans ((quietBelow _ _).mono HB9.out.size)⟩
            ·have hsl : ((sl : Int) == 3) = false := by simp; omega
             have HF : Hid (b = false) := by
              have : b = false := by rw [← HV.out]; simp [shape, *]
              exact this
             go_wp2_with fail
             go_quiet (fail)
             go_wp2_with fail
             go_ret
             exact ⟨by rw [HF.out]; rfl, HB9.out.trans ((quietBelow _ _).mono HB9.out.size)⟩
           ·have hll : ((ll : Int) == 0) = false := by simp; omega
            have HF : Hid (b = false) := by
             have : b = false := by rw [← HV.out]; simp [shape, *]
             exact this
            go_wp2_with fail
            go_quiet (fail)
            go_wp2_with fail
            go_ret
            exact ⟨by rw [HF.out]; rfl, HB9.out.trans ((quietBelow _ _).mono HB9.out.size)⟩
          ·have hnm : m.toList.isEmpty = false := isEmpty_no q3
           have HF : Hid (b = false) := by
            have : b = false := by rw [← HV.out]; simp [shape, *]
            exact this
           go_wp2_with fail
           go_quiet (fail)
           go_wp2_with fail
           go_ret
           exact ⟨by rw [HF.out]; rfl, HB9.out.trans ((quietBelow _ _).mono HB9.out.size)⟩
         ·have hn0 : (n == 0) = false := by simp; omega
          have HF : Hid (b = false) := by
           have : b = false := by rw [← HV.out]; simp [shape, *]
           exact this
          go_wp2_with fail
          go_quiet (fail)
          go_wp2_with fail
          go_ret
          exact ⟨by rw [HF.out]; rfl, HB9.out.trans ((quietBelow _ _).mono HB9.out.size)⟩
        ·have e1 : (kd == 1) = false := by simp; omega
         have e2 : (kd == 2) = false := by simp; omega
         have e3 : (kd == 3) = false := by simp; omega
         have e4 : (kd == 4) = false := by simp; omega
         have e5 : (kd == 5) = false := by simp; omega
         have e6 : (kd == 6) = false := by simp; omega
         have e7 : (kd == 7) = false := by simp; omega
         have HF : Hid (b = false) := by
          have : b = false := by rw [← HV.out]; simp [shape, *]
          exact this
         go_wp2_with fail
         go_quiet (fail)
         go_wp2_with fail
         go_ret
         exact ⟨by rw [HF.out]; rfl, HB9.out.trans ((quietBelow _ _).mono HB9.out.size)⟩
end Trm
end Go.Proofs.YteomfakbbcpckaaGreatDoor
