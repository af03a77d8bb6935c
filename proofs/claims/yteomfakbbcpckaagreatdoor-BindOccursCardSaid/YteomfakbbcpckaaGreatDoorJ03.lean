/-
  Plain facts and contracts that the law's proof stands on, joined.
  Conditions: each fact's own.
-/
import Derived.Test.YteomfakbbcpckaaGreatDoorJ02
import Derived.Deep.AppendLies
import Derived.Deep.RegionHeld3
namespace Go.Proofs.YteomfakbbcpckaaGreatDoor
open Go.RowKit
open Lvl
mutual
def LvP (w : World) (P : Nat → Prop) : Lv → Value → Prop
 | .mk _ _ ts, s => ∃ A len cap, s = .slice A len cap ∧ ts.length = len ∧ len ≤ cap ∧ len ≤ 140737488355328 ∧ (A = none → cap = 0) ∧ LsP w P A 0 ts
def LsP (w : World) (P : Nat → Prop) : Option Addr → Nat → List Lv → Prop
 | _, _, [] => True
 | A, j, a :: ts => (∃ b o s, A = some ⟨b, o, none⟩ ∧ b < w.heap.size ∧ P b ∧ w.cell? ⟨b, o + j * 3, none⟩ = some (.int .i64 (kindOf a)) ∧ w.cell? ⟨b, o + j * 3 + 1, none⟩ = some (.int .i64 (numOf a)) ∧ w.cell? ⟨b, o + j * 3 + 2, none⟩ = some s ∧ LvP w P a s) ∧ LsP w P A (j + 1) ts
end
mutual
theorem lvS_of {w : World} {P : Nat → Prop} : ∀ (t : Lv) (s : Value), LvP w P t s → LvS w t s
 | .mk k n ts, s, h => by
  rw [LvP] at h
  rw [LvS]
  obtain ⟨A, len, cap, e, h1, h2, h3, h4, h5⟩ := h
  exact ⟨A, len, cap, e, h1, h2, h3, h4, lsV_ofP A 0 ts h5⟩
theorem lsV_ofP {w : World} {P : Nat → Prop} : ∀ (A : Option Addr) (j : Nat) (ts : List Lv), LsP w P A j ts → LsV w A j ts
 | _, _, [], _ => by rw [LsV]; trivial
 | A, j, a :: ts, h => by
  rw [LsP] at h
  rw [LsV]
  obtain ⟨⟨b, o, s, e, h1, _, h2, h3, h4, h5⟩, h6⟩ := h
  exact ⟨⟨b, o, s, e, h1, h2, h3, h4, lvS_of a s h5⟩, lsV_ofP A (j + 1) ts h6⟩
end
theorem cell_heap {w w' : World} {b p : Nat} (h : w'.heap[b]? = w.heap[b]?) : w'.cell? ⟨b, p, none⟩ = w.cell? ⟨b, p, none⟩ := by
 unfold World.cell?
 rw [h]
mutual
theorem lvP_move {w w' : World} {P Q : Nat → Prop} (hb : ∀ b, b < w.heap.size → P b → Q b ∧ w'.heap[b]? = w.heap[b]?) (hs : w.heap.size ≤ w'.heap.size) : ∀ (t : Lv) (s : Value), LvP w P t s → LvP w' Q t s
 | .mk k n ts, s, h => by
  rw [LvP] at h ⊢
  obtain ⟨A, len, cap, e, h1, h2, h3, h4, h5⟩ := h
  exact ⟨A, len, cap, e, h1, h2, h3, h4, lsP_move hb hs A 0 ts h5⟩
theorem lsP_move {w w' : World} {P Q : Nat → Prop} (hb : ∀ b, b < w.heap.size → P b → Q b ∧ w'.heap[b]? = w.heap[b]?) (hs : w.heap.size ≤ w'.heap.size) : ∀ (A : Option Addr) (j : Nat) (ts : List Lv), LsP w P A j ts → LsP w' Q A j ts
 | _, _, [], _ => by rw [LsP]; trivial
 | A, j, a :: ts, h => by
  rw [LsP] at h ⊢
  obtain ⟨⟨b, o, s, e, h1, hp, h2, h3, h4, h5⟩, h6⟩ := h
  obtain ⟨q1, q2⟩ := hb b h1 hp
  exact ⟨⟨b, o, s, e, Nat.lt_of_lt_of_le h1 hs, q1, (cell_heap q2).trans h2, (cell_heap q2).trans h3, (cell_heap q2).trans h4, lvP_move hb hs a s h5⟩, lsP_move hb hs A (j + 1) ts h6⟩
end
theorem lsP_of {w : World} {P : Nat → Prop} {A : Option Addr} : ∀ (ts : List Lv) (j : Nat), (∀ i (h : i < ts.length), ∃ b o s, A = some ⟨b, o, none⟩ ∧ b < w.heap.size ∧ P b ∧ w.cell? ⟨b, o + (j + i) * 3, none⟩ = some (.int .i64 (kindOf ts[i])) ∧ w.cell? ⟨b, o + (j + i) * 3 + 1, none⟩ = some (.int .i64 (numOf ts[i])) ∧ w.cell? ⟨b, o + (j + i) * 3 + 2, none⟩ = some s ∧ LvP w P ts[i] s) → LsP w P A j ts
 | [], _, _ => by rw [LsP]; trivial
 | a :: ts, j, h => by
  rw [LsP]
  refine ⟨h 0 (by simp), lsP_of ts (j + 1) fun i hi => ?_⟩
  have := h (i + 1) (by simpa using hi)
  rw [show j + (i + 1) = j + 1 + i by omega] at this
  exact this
def cells3 : List Lv → List Value → List Value
 | a :: ts, s :: ss => .int .i64 (kindOf a) :: .int .i64 (numOf a) :: s :: cells3 ts ss
 | _, _ => []
theorem cells3_snoc : ∀ (ts : List Lv) (ss : List Value) (a : Lv) (s : Value), ts.length = ss.length → cells3 (ts ++ [a]) (ss ++ [s]) = cells3 ts ss ++ [.int .i64 (kindOf a), .int .i64 (numOf a), s]
 | [], [], a, s, _ => rfl
 | b :: ts, r :: ss, a, s, h => by
  rw [List.cons_append, List.cons_append, cells3, cells3, cells3_snoc ts ss a s (by simpa using h)]
  rfl
theorem cells3_get : ∀ (ts : List Lv) (ss : List Value) (i : Nat) (h1 : i < ts.length) (h2 : i < ss.length), (cells3 ts ss)[i * 3]? = some (.int .i64 (kindOf ts[i])) ∧ (cells3 ts ss)[i * 3 + 1]? = some (.int .i64 (numOf ts[i])) ∧ (cells3 ts ss)[i * 3 + 2]? = some ss[i]
 | a :: ts, s :: ss, 0, _, _ => ⟨rfl, rfl, rfl⟩
 | a :: ts, s :: ss, i + 1, h1, h2 => by
  have := cells3_get ts ss i (by simpa using h1) (by simpa using h2)
  rw [cells3, show (i + 1) * 3 = i * 3 + 3 by omega]
  exact this
def OwnL (w : World) (base : Nat) (V : Value) (ts : List Lv) : Prop :=
 ∃ ss, ts.length = ss.length ∧ w.ownsRow base 48 3 V ts.length (cells3 ts ss) ∧ ∀ i (h1 : i < ts.length) (h2 : i < ss.length), LvP w (fun b => base ≤ b ∧ V.ownBlock ≠ some b) ts[i] ss[i]
theorem ownL_nil (w : World) (base : Nat) : OwnL w base (.slice none 0 0) [] := ⟨[], rfl, World.ownsRow_nil _ _ _ _, fun _ h => absurd h (Nat.not_lt_zero _)⟩
theorem ownL_step {w0 w1 w2 : World} {base g cap : Nat} {V s : Value} {ts : List Lv} {ss : List Value} {a : Lv} {O : Obj} {H : Nat} (hl : ts.length = ss.length) (ho : w0.ownsRow base 48 3 V ts.length (cells3 ts ss)) (hk : ∀ i (h1 : i < ts.length) (h2 : i < ss.length), LvP w0 (fun b => base ≤ b ∧ V.ownBlock ≠ some b) ts[i] ss[i]) (hbase : base ≤ w0.heap.size) (hb : Below w0.heap.size w0 w1) (hs : LvP w1 (fun b => w0.heap.size ≤ b) a s) (hH : (w1.alloc O).heap.size = H)
  (hown : w2.ownsRow base 48 3 (.slice (some ⟨g, 0, none⟩) (ts.length + 1) cap) (ts.length + 1) (cells3 ts ss ++ [.int .i64 (kindOf a), .int .i64 (numOf a), s]))
  (hg : (w1.alloc O).grownBy w2 V.ownBlock) (hat : V.ownBlock = some g ∨ g = H) : OwnL w2 base (.slice (some ⟨g, 0, none⟩) (ts.length + 1) cap) (ts ++ [a]) := by
 obtain ⟨_, _, _, hsz, hrow⟩ := hg
 have hsz1 : w1.heap.size < H := by rw [← hH]; simp
 have hVlt : ∀ b, V.ownBlock = some b → b < w0.heap.size := fun b hb => by
  rcases ho.2 with ⟨rfl, _⟩ | ⟨g', cap', cur, rfl, _, hgr, _⟩
  ·cases hb
  ·cases hb
   rcases Nat.lt_or_ge g' w0.heap.size with h | h
   ·exact h
   ·rw [Array.getElem?_eq_none h] at hgr; cases hgr
 have keep1 : ∀ b, b < w1.heap.size → V.ownBlock ≠ some b → w2.heap[b]? = w1.heap[b]? := fun b hlt hne =>
  (hrow b (by rw [hH]; omega) (fun e => hne e.symm)).trans (heap_alloc_old w1 O hlt)
 have hne : ∀ b, b < w1.heap.size → V.ownBlock ≠ some b → (Value.slice (some ⟨g, 0, none⟩) (ts.length + 1) cap).ownBlock ≠ some b := fun b hlt hv e => by
  have e2 : g = b := by simpa [Value.ownBlock] using e
  subst e2
  rcases hat with h | h
  ·exact hv h
  ·omega
 have hge : w1.heap.size ≤ w2.heap.size := by rw [hH] at hsz; omega
 refine ⟨ss ++ [s], by simp [hl], by rw [List.length_append, cells3_snoc ts ss a s hl]; exact hown, fun i h1 h2 => ?_⟩
 by_cases hi : i < ts.length
 ·rw [List.getElem_append_left hi, List.getElem_append_left (by omega)]
  refine lvP_move (fun b hlt hp => ?_) (Nat.le_trans hb.size hge) _ _ (hk i hi (by omega))
  have hlt1 := Nat.lt_of_lt_of_le hlt hb.size
  exact ⟨⟨hp.1, hne b hlt1 hp.2⟩, (keep1 b hlt1 hp.2).trans (hb.block b hlt)⟩
 ·have hi2 : i = ts.length := by rw [List.length_append, List.length_singleton] at h1; omega
  subst hi2
  have hl2 : ss.length ≤ ts.length := by omega
  rw [List.getElem_append_right (Nat.le_refl _), List.getElem_append_right hl2]
  simp only [Nat.sub_self, List.getElem_singleton]
  refine lvP_move (fun b hlt hp => ?_) hge a s hs
  have hv : V.ownBlock ≠ some b := fun e => by
   have := hVlt b e
   omega
  exact ⟨⟨Nat.le_trans hbase hp, hne b hlt hv⟩, keep1 b hlt hv⟩
theorem lvP_one {w : World} {P : Nat → Prop} {t : Lv} {s : Value} (h : LvP w P t s) : s.oneCell' = true := by
 cases t with
 | mk k n ts =>
 rw [LvP] at h
 obtain ⟨A, len, cap, rfl, _⟩ := h
 rfl
theorem len_nodes : ∀ ts : List Lv, ts.length ≤ nodesL ts
 | [] => Nat.zero_le _
 | a :: ts => by
  have := nodes_pos a
  have := len_nodes ts
  rw [nodesL, List.length_cons]
  omega
theorem three_oneCell {x y : Int} {s : Value} (h : s.oneCell' = true) : ∀ u ∈ [Value.int .i64 x, Value.int .i64 y, s], u.oneCell' = true := by
 intro u hu
 simp at hu
 rcases hu with rfl | rfl | rfl
 ·rfl
 ·rfl
 ·exact h
theorem frozen0 {w : World} {b p : Nat} {c : Array Value} {T : TypeId} (h : w.heap[b]? = some (.cells c T (0, 0))) : w.frozen? ⟨b, p, none⟩ = false := by
 unfold World.frozen?
 rw [h]
 simp
theorem setCell_size (w : World) (a : Addr) (v : Value) : (w.setCell a v).heap.size = w.heap.size := by simp [World.setCell]
theorem setCell_far (w : World) (a : Addr) (v : Value) (k : Nat) (h : k ≠ a.block) : (w.setCell a v).heap[k]? = w.heap[k]? := by
 unfold World.setCell
 simp only [Array.getElem?_modify]
 rw [if_neg (fun e => h e.symm)]
theorem below_set {B : Nat} {w w' : World} (h : Below B w w') (a : Addr) (v : Value) (ha : B ≤ a.block) : Below B w (w'.setCell a v) :=
 h.trans ⟨rfl, rfl, rfl, by rw [setCell_size]; exact Nat.le_refl _, fun k hk => setCell_far _ _ _ _ (by omega)⟩
theorem ownL_lvP {w : World} {base : Nat} {V : Value} {ts : List Lv} (h : OwnL w base V ts) (hl : ts.length ≤ 140737488355328) (k n : Int) : LvP w (fun b => base ≤ b) (.mk k n ts) V := by
 obtain ⟨ss, hls, ho, hk⟩ := h
 rw [LvP]
 rcases ho.2 with ⟨rfl, h0⟩ | ⟨g, cap, cur, rfl, hbg, hg, hn, hm, hs, ht⟩
 ·have : ts = [] := List.length_eq_zero_iff.1 h0
  subst this
  exact ⟨none, 0, 0, rfl, rfl, Nat.le_refl _, by omega, fun _ => rfl, by rw [LsP]; trivial⟩
 ·refine ⟨some ⟨g, 0, none⟩, ts.length, cap, rfl, rfl, hn, hl, (fun e => by cases e), lsP_of ts 0 fun i hi => ?_⟩
  obtain ⟨c0, c1, c2⟩ := cells3_get ts ss i hi (by omega)
  refine ⟨g, 0, ss[i], rfl, (ho.lt g rfl).2, hbg, ?_, ?_, ?_, ?_⟩
  ·rw [Nat.zero_add, Nat.zero_add, ho.cellAt (i * 3) (by omega)]; exact c0
  ·rw [Nat.zero_add, Nat.zero_add, ho.cellAt (i * 3 + 1) (by omega)]; exact c1
  ·rw [Nat.zero_add, Nat.zero_add, ho.cellAt (i * 3 + 2) (by omega)]; exact c2
  ·exact lvP_move (fun b _ hp => ⟨hp.1, rfl⟩) (Nat.le_refl _) _ _ (hk i hi (by omega))
end Go.Proofs.YteomfakbbcpckaaGreatDoor
namespace Go.Proofs.YteomfakbbcpckaaGreatDoor
open Go.RowKit
open Lvl
theorem set3_row {w : World} {b : Nat} {x y z x' y' z' : Value} {T : TypeId} (h : w.heap[b]? = some (.cells #[x, y, z] T (0, 0))) : (((w.setCell ⟨b, 0, none⟩ x').setCell ⟨b, 1, none⟩ y').setCell ⟨b, 2, none⟩ z').heap[b]? = some (.cells #[x', y', z'] T (0, 0)) := by
 unfold World.setCell
 simp [Array.getElem?_modify, h]
theorem ownL_slice {w : World} {base : Nat} {V : Value} {ts : List Lv} (h : OwnL w base V ts) : ∃ a l c, V = .slice a l c := by
 obtain ⟨ss, _, ho, _⟩ := h
 rcases ho.2 with ⟨rfl, _⟩ | ⟨g, cap, cur, rfl, _⟩
 ·exact ⟨_, _, _, rfl⟩
 ·exact ⟨_, _, _, rfl⟩
theorem lvP_slice {w : World} {P : Nat → Prop} {t : Lv} {s : Value} (h : LvP w P t s) : ∃ a l c, s = .slice a l c := by
 cases t with
 | mk k n ts =>
 rw [LvP] at h
 obtain ⟨A, len, cap, rfl, _⟩ := h
 exact ⟨_, _, _, rfl⟩
end Go.Proofs.YteomfakbbcpckaaGreatDoor
