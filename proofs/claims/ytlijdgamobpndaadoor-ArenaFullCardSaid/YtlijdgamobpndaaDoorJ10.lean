import Derived.Test.YtlijdgamobpndaaDoorJ09
import Derived.Deep.RegionLaw
import Derived.Test.YtlijdgamobpndaaDoorJ02
import Derived.Test.YtlijdgamobpndaaDoorJ03
/-
  The contract of the statements' helper CopyLevel: the same level, in new memory.
  Conditions: the level lies in memory as told by 'LvV'; it has at most 1000 nodes.
-/
namespace Go.Proofs.YtlijdgamobpndaaDoor
open Go.RowKit
open Lvl

/-- A level is answered that lies in new memory. -/
def LvRet (w : World) (t : Lv) (e : Ending) (w' : World) : Prop :=
  ∃ s, e = .returned (.agg #[.int .i64 (kindOf t), .int .i64 (numOf t), s]) ∧ LvP w' (fun b => w.heap.size ≤ b) t s ∧ Below w.heap.size w w'
theorem infoLv : (Tryd.prog.info? 63).map (fun i => (i.zero, i.size, i.bytes)) = some (some (.agg #[.int .i64 0, .int .i64 0, .slice none 0 0]), 3, 40) := by kernel_rfl

end Go.Proofs.YtlijdgamobpndaaDoor
/-
  Terms in memory, with the blocks that they lie in: a struct of a kind, a number, a name, a slice of levels and a slice of such structs.
  Conditions: each text's own.
-/
namespace Go.Proofs.YtlijdgamobpndaaDoor
open Go.RowKit
open Lvl
namespace Trm

abbrev tkOf : Tm → Int | .mk k _ _ _ _ => k
abbrev tnOf : Tm → Int | .mk _ n _ _ _ => n
abbrev tmOf : Tm → ByteArray | .mk _ _ m _ _ => m
abbrev tlOf : Tm → List Lv | .mk _ _ _ ls _ => ls
abbrev taOf : Tm → List Tm | .mk _ _ _ _ ts => ts
mutual
/-- The slices l and s hold the term's levels and arguments, all in blocks of P. -/
def TmP (w : World) (P : Nat → Prop) : Tm → Value → Value → Prop
  | .mk _ _ _ ls ts, l, s => LvP w P (.mk 0 0 ls) l ∧ ∃ A len cap, s = .slice A len cap ∧ ts.length = len ∧ len ≤ cap ∧ len ≤ 140737488355328 ∧ (A = none → cap = 0) ∧ TsP w P A 0 ts
/-- From its j-th place on, the slice at A holds these terms. -/
def TsP (w : World) (P : Nat → Prop) : Option Addr → Nat → List Tm → Prop
  | _, _, [] => True
  | A, j, a :: ts => (∃ b o l s, A = some ⟨b, o, none⟩ ∧ b < w.heap.size ∧ P b ∧ w.cell? ⟨b, o + j * 5, none⟩ = some (.int .i64 (tkOf a)) ∧ w.cell? ⟨b, o + j * 5 + 1, none⟩ = some (.int .i64 (tnOf a)) ∧ w.cell? ⟨b, o + j * 5 + 2, none⟩ = some (.string (tmOf a)) ∧ w.cell? ⟨b, o + j * 5 + 3, none⟩ = some l ∧ w.cell? ⟨b, o + j * 5 + 4, none⟩ = some s ∧ TmP w P a l s) ∧ TsP w P A (j + 1) ts
end
/-- The term's cells. -/
abbrev tv (t : Tm) (l s : Value) : Value := .agg #[.int .i64 (tkOf t), .int .i64 (tnOf t), .string (tmOf t), l, s]
/-- The term as a value. -/
def TmV (w : World) (t : Tm) (v : Value) : Prop := ∃ l s, v = tv t l s ∧ TmP w (fun _ => True) t l s
mutual
theorem tmP_move {w w' : World} {P Q : Nat → Prop} (hb : ∀ b, b < w.heap.size → P b → Q b ∧ w'.heap[b]? = w.heap[b]?) (hs : w.heap.size ≤ w'.heap.size) : ∀ (t : Tm) (l s : Value), TmP w P t l s → TmP w' Q t l s
  | .mk k n m ls ts, l, s, h => by
    rw [TmP] at h ⊢
    obtain ⟨h0, A, len, cap, e, h1, h2, h3, h4, h5⟩ := h
    exact ⟨lvP_move hb hs _ _ h0, A, len, cap, e, h1, h2, h3, h4, tsP_move hb hs A 0 ts h5⟩
theorem tsP_move {w w' : World} {P Q : Nat → Prop} (hb : ∀ b, b < w.heap.size → P b → Q b ∧ w'.heap[b]? = w.heap[b]?) (hs : w.heap.size ≤ w'.heap.size) : ∀ (A : Option Addr) (j : Nat) (ts : List Tm), TsP w P A j ts → TsP w' Q A j ts
  | _, _, [], _ => by rw [TsP]; trivial
  | A, j, a :: ts, h => by
    rw [TsP] at h ⊢
    obtain ⟨⟨b, o, l, s, e, h1, hp, c0, c1, c2, c3, c4, h5⟩, h6⟩ := h
    obtain ⟨q1, q2⟩ := hb b h1 hp
    exact ⟨⟨b, o, l, s, e, Nat.lt_of_lt_of_le h1 hs, q1, (cell_heap q2).trans c0, (cell_heap q2).trans c1, (cell_heap q2).trans c2, (cell_heap q2).trans c3, (cell_heap q2).trans c4, tmP_move hb hs a l s h5⟩, tsP_move hb hs A (j + 1) ts h6⟩
end
theorem tmP_below {w w' : World} {P : Nat → Prop} (hb : Below w.heap.size w w') {t : Tm} {l s : Value} (h : TmP w P t l s) : TmP w' P t l s :=
  tmP_move (fun b hlt hp => ⟨hp, hb.block b hlt⟩) hb.size t l s h
theorem tsP_below {w w' : World} {P : Nat → Prop} (hb : Below w.heap.size w w') {A : Option Addr} {j : Nat} {ts : List Tm} (h : TsP w P A j ts) : TsP w' P A j ts :=
  tsP_move (fun b hlt hp => ⟨hp, hb.block b hlt⟩) hb.size A j ts h
theorem tmP_weak {w : World} {P Q : Nat → Prop} (hq : ∀ b, P b → Q b) {t : Tm} {l s : Value} (h : TmP w P t l s) : TmP w Q t l s :=
  tmP_move (fun b _ hp => ⟨hq b hp, rfl⟩) (Nat.le_refl _) t l s h
theorem TmV.below {w w' : World} {t : Tm} {v : Value} (h : TmV w t v) (hb : Below w.heap.size w w') : TmV w' t v := by
  obtain ⟨l, s, e, h1⟩ := h
  exact ⟨l, s, e, tmP_below hb h1⟩
theorem tsP_at {w : World} {P : Nat → Prop} : ∀ {A : Option Addr} {ts : List Tm} {j : Nat}, TsP w P A j ts → ∀ i (h : i < ts.length), ∃ b o l s, A = some ⟨b, o, none⟩ ∧ b < w.heap.size ∧ P b ∧ w.cell? ⟨b, o + (j + i) * 5, none⟩ = some (.int .i64 (tkOf ts[i])) ∧ w.cell? ⟨b, o + (j + i) * 5 + 1, none⟩ = some (.int .i64 (tnOf ts[i])) ∧ w.cell? ⟨b, o + (j + i) * 5 + 2, none⟩ = some (.string (tmOf ts[i])) ∧ w.cell? ⟨b, o + (j + i) * 5 + 3, none⟩ = some l ∧ w.cell? ⟨b, o + (j + i) * 5 + 4, none⟩ = some s ∧ TmP w P ts[i] l s
  | A, a :: ts, j, h, 0, _ => by
    rw [TsP] at h
    exact h.1
  | A, a :: ts, j, h, i + 1, hi => by
    rw [TsP] at h
    have := tsP_at h.2 i (by simpa using hi)
    rw [show j + 1 + i = j + (i + 1) by omega] at this
    exact this
theorem tsP_get {w : World} {P : Nat → Prop} {A : Option Addr} {ts : List Tm} (h : TsP w P A 0 ts) (i : Nat) (hi : i < ts.length) : ∃ b o l s, A = some ⟨b, o, none⟩ ∧ b < w.heap.size ∧ P b ∧ w.cell? ⟨b, o + i * 5, none⟩ = some (.int .i64 (tkOf ts[i])) ∧ w.cell? ⟨b, o + i * 5 + 1, none⟩ = some (.int .i64 (tnOf ts[i])) ∧ w.cell? ⟨b, o + i * 5 + 2, none⟩ = some (.string (tmOf ts[i])) ∧ w.cell? ⟨b, o + i * 5 + 3, none⟩ = some l ∧ w.cell? ⟨b, o + i * 5 + 4, none⟩ = some s ∧ TmP w P ts[i] l s := by
  have := tsP_at h i hi
  rw [Nat.zero_add] at this
  exact this
theorem tsP_of {w : World} {P : Nat → Prop} {A : Option Addr} : ∀ (ts : List Tm) (j : Nat), (∀ i (h : i < ts.length), ∃ b o l s, A = some ⟨b, o, none⟩ ∧ b < w.heap.size ∧ P b ∧ w.cell? ⟨b, o + (j + i) * 5, none⟩ = some (.int .i64 (tkOf ts[i])) ∧ w.cell? ⟨b, o + (j + i) * 5 + 1, none⟩ = some (.int .i64 (tnOf ts[i])) ∧ w.cell? ⟨b, o + (j + i) * 5 + 2, none⟩ = some (.string (tmOf ts[i])) ∧ w.cell? ⟨b, o + (j + i) * 5 + 3, none⟩ = some l ∧ w.cell? ⟨b, o + (j + i) * 5 + 4, none⟩ = some s ∧ TmP w P ts[i] l s) → TsP w P A j ts
  | [], _, _ => by rw [TsP]; trivial
  | a :: ts, j, h => by
    rw [TsP]
    refine ⟨h 0 (by simp), tsP_of ts (j + 1) fun i hi => ?_⟩
    have := h (i + 1) (by simpa using hi)
    rw [show j + (i + 1) = j + 1 + i by omega] at this
    exact this
mutual
theorem lvP_true {w : World} : ∀ (t : Lv) (s : Value), LvS w t s → LvP w (fun _ => True) t s
  | .mk k n ts, s, h => by
    rw [LvS] at h
    rw [LvP]
    obtain ⟨A, len, cap, e, h1, h2, h3, h4, h5⟩ := h
    exact ⟨A, len, cap, e, h1, h2, h3, h4, lsP_true A 0 ts h5⟩
theorem lsP_true {w : World} : ∀ (A : Option Addr) (j : Nat) (ts : List Lv), LsV w A j ts → LsP w (fun _ => True) A j ts
  | _, _, [], _ => by rw [LsP]; trivial
  | A, j, a :: ts, h => by
    rw [LsV] at h
    rw [LsP]
    obtain ⟨⟨b, o, s, e, h1, h2, h3, h4, h5⟩, h6⟩ := h
    exact ⟨⟨b, o, s, e, h1, trivial, h2, h3, h4, lvP_true a s h5⟩, lsP_true A (j + 1) ts h6⟩
end
theorem tmP_slices {w : World} {P : Nat → Prop} {t : Tm} {l s : Value} (h : TmP w P t l s) : (∃ a n c, l = .slice a n c) ∧ ∃ a n c, s = .slice a n c := by
  cases t with
  | mk k n m ls ts =>
  rw [TmP, LvP] at h
  obtain ⟨⟨A, len, cap, rfl, _⟩, A', len', cap', rfl, _⟩ := h
  exact ⟨⟨_, _, _, rfl⟩, _, _, _, rfl⟩
theorem tnodesL_append : ∀ (l k : List Tm), tnodesL (l ++ k) = tnodesL l + tnodesL k
  | [], k => by rw [List.nil_append, tnodesL]; omega
  | a :: l, k => by rw [List.cons_append, tnodesL, tnodesL, tnodesL_append l k]; omega
theorem tnodesL_take {ts : List Tm} {j : Nat} (h : j < ts.length) : tnodesL (ts.take (j + 1)) = tnodesL (ts.take j) + tnodes ts[j] := by
  rw [List.take_add_one, List.getElem?_eq_getElem h, tnodesL_append]
  simp [tnodesL]
theorem tnodesL_le (ts : List Tm) (j : Nat) : tnodesL (ts.take j) ≤ tnodesL ts := by
  have := tnodesL_append (ts.take j) (ts.drop j)
  rw [List.take_append_drop] at this
  omega
theorem tnodes_mem {t : Tm} : ∀ {l : List Tm}, t ∈ l → tnodes t ≤ tnodesL l
  | a :: l, h => by
    rw [tnodesL]
    rcases List.mem_cons.1 h with rfl | h
    · omega
    · have := tnodes_mem h
      omega
theorem tlen_nodes : ∀ ts : List Tm, ts.length ≤ tnodesL ts
  | [] => Nat.zero_le _
  | a :: ts => by
    have := tnodes_pos a
    have := tlen_nodes ts
    rw [tnodesL, List.length_cons]
    omega

/-- A box of five cells. -/
abbrev tbox (k n : Int) (m : ByteArray) (l s : Value) : Obj := .cells #[.int .i64 k, .int .i64 n, .string m, l, s] 25
theorem five_cells {w : World} {b : Nat} {x0 x1 x2 x3 x4 : Value} {T : TypeId} (h : w.heap[b]? = some (.cells #[x0, x1, x2, x3, x4] T (0, 0))) : w.cell? ⟨b, 0, none⟩ = some x0 ∧ w.cell? ⟨b, 1, none⟩ = some x1 ∧ w.cell? ⟨b, 2, none⟩ = some x2 ∧ w.cell? ⟨b, 3, none⟩ = some x3 ∧ w.cell? ⟨b, 4, none⟩ = some x4 :=
  ⟨cell_of_row _ _ 0 _ T (0, 0) h, cell_of_row _ _ 1 _ T (0, 0) h, cell_of_row _ _ 2 _ T (0, 0) h, cell_of_row _ _ 3 _ T (0, 0) h, cell_of_row _ _ 4 _ T (0, 0) h⟩
theorem set5_row {w : World} {b : Nat} {x0 x1 x2 x3 x4 y0 y1 y2 y3 y4 : Value} {T : TypeId} (h : w.heap[b]? = some (.cells #[x0, x1, x2, x3, x4] T (0, 0))) : (((((w.setCell ⟨b, 0, none⟩ y0).setCell ⟨b, 1, none⟩ y1).setCell ⟨b, 2, none⟩ y2).setCell ⟨b, 3, none⟩ y3).setCell ⟨b, 4, none⟩ y4).heap[b]? = some (.cells #[y0, y1, y2, y3, y4] T (0, 0)) := by
  unfold World.setCell
  simp [Array.getElem?_modify, h]
theorem infoTm : (Tryd.prog.info? 25).map (fun i => (i.zero, i.size, i.bytes)) = some (some (.agg #[.int .i64 0, .int .i64 0, .string ⟨#[]⟩, .slice none 0 0, .slice none 0 0]), 5, 80) := by kernel_rfl

/-- A term is answered that lies in new memory. -/
def TmRet (w : World) (t : Tm) (e : Ending) (w' : World) : Prop :=
  ∃ l s, e = .returned (tv t l s) ∧ TmP w' (fun b => w.heap.size ≤ b) t l s ∧ Below w.heap.size w w'

/-- The cells of a row of terms. -/
def cells5 : List Tm → List (Value × Value) → List Value
  | a :: ts, s :: ss => .int .i64 (tkOf a) :: .int .i64 (tnOf a) :: .string (tmOf a) :: s.1 :: s.2 :: cells5 ts ss
  | _, _ => []
theorem cells5_snoc : ∀ (ts : List Tm) (ss : List (Value × Value)) (a : Tm) (s : Value × Value), ts.length = ss.length → cells5 (ts ++ [a]) (ss ++ [s]) = cells5 ts ss ++ [.int .i64 (tkOf a), .int .i64 (tnOf a), .string (tmOf a), s.1, s.2]
  | [], [], a, s, _ => rfl
  | b :: ts, r :: ss, a, s, h => by
    rw [List.cons_append, List.cons_append, cells5, cells5, cells5_snoc ts ss a s (by simpa using h)]
    rfl
theorem cells5_len : ∀ (ts : List Tm) (ss : List (Value × Value)), ts.length = ss.length → (cells5 ts ss).length = ts.length * 5
  | [], [], _ => rfl
  | b :: ts, r :: ss, h => by
    rw [cells5, List.length_cons, List.length_cons, List.length_cons, List.length_cons, List.length_cons, cells5_len ts ss (by simpa using h), List.length_cons]
    omega
theorem cells5_get : ∀ (ts : List Tm) (ss : List (Value × Value)) (i : Nat) (h1 : i < ts.length) (h2 : i < ss.length), (cells5 ts ss)[i * 5]? = some (.int .i64 (tkOf ts[i])) ∧ (cells5 ts ss)[i * 5 + 1]? = some (.int .i64 (tnOf ts[i])) ∧ (cells5 ts ss)[i * 5 + 2]? = some (.string (tmOf ts[i])) ∧ (cells5 ts ss)[i * 5 + 3]? = some ss[i].1 ∧ (cells5 ts ss)[i * 5 + 4]? = some ss[i].2
  | a :: ts, s :: ss, 0, _, _ => ⟨rfl, rfl, rfl, rfl, rfl⟩
  | a :: ts, s :: ss, i + 1, h1, h2 => by
    have := cells5_get ts ss i (by simpa using h1) (by simpa using h2)
    rw [cells5, show (i + 1) * 5 = i * 5 + 5 by omega]
    exact this
/-- A row of one's own of these terms; what they hold lies in blocks from 'base' on, but not in the row's. -/
def OwnT (w : World) (base : Nat) (V : Value) (ts : List Tm) : Prop :=
  ∃ ss : List (Value × Value), ts.length = ss.length ∧ w.ownsRow base 25 5 V ts.length (cells5 ts ss) ∧ ∀ i (h1 : i < ts.length) (h2 : i < ss.length), TmP w (fun b => base ≤ b ∧ V.ownBlock ≠ some b) ts[i] ss[i].1 ss[i].2
theorem ownT_nil (w : World) (base : Nat) : OwnT w base (.slice none 0 0) [] := ⟨[], rfl, World.ownsRow_nil _ _ _ _, fun _ h => absurd h (Nat.not_lt_zero _)⟩
theorem ownT_slice {w : World} {base : Nat} {V : Value} {ts : List Tm} (h : OwnT w base V ts) : ∃ a l c, V = .slice a l c := by
  obtain ⟨ss, _, ho, _⟩ := h
  rcases ho.2 with ⟨rfl, _⟩ | ⟨g, cap, cur, rfl, _⟩
  · exact ⟨_, _, _, rfl⟩
  · exact ⟨_, _, _, rfl⟩
/-- One term more. -/
theorem ownT_step {w0 w1 w2 : World} {base g cap : Nat} {V l s : Value} {ts : List Tm} {ss : List (Value × Value)} {a : Tm} {O : Obj} {H : Nat} (hl : ts.length = ss.length) (hk : ∀ i (h1 : i < ts.length) (h2 : i < ss.length), TmP w0 (fun b => base ≤ b ∧ V.ownBlock ≠ some b) ts[i] ss[i].1 ss[i].2) (hb : Below w0.heap.size w0 w1) (hs : TmP w1 (fun b => base ≤ b ∧ V.ownBlock ≠ some b) a l s) (hH : (w1.alloc O).heap.size = H)
    (hown : w2.ownsRow base 25 5 (.slice (some ⟨g, 0, none⟩) (ts.length + 1) cap) (ts.length + 1) (cells5 ts ss ++ [.int .i64 (tkOf a), .int .i64 (tnOf a), .string (tmOf a), l, s]))
    (hg : (w1.alloc O).grownBy w2 V.ownBlock) (hat : V.ownBlock = some g ∨ g = H) : OwnT w2 base (.slice (some ⟨g, 0, none⟩) (ts.length + 1) cap) (ts ++ [a]) := by
  obtain ⟨_, _, _, hsz, hrow⟩ := hg
  have hsz1 : w1.heap.size < H := by rw [← hH]; simp
  have keep1 : ∀ b, b < w1.heap.size → V.ownBlock ≠ some b → w2.heap[b]? = w1.heap[b]? := fun b hlt hne =>
    (hrow b (by rw [hH]; omega) (fun e => hne e.symm)).trans (heap_alloc_old w1 O hlt)
  have hne : ∀ b, b < w1.heap.size → V.ownBlock ≠ some b → (Value.slice (some ⟨g, 0, none⟩) (ts.length + 1) cap).ownBlock ≠ some b := fun b hlt hv e => by
    have e2 : g = b := by simpa [Value.ownBlock] using e
    subst e2
    rcases hat with h | h
    · exact hv h
    · omega
  have hge : w1.heap.size ≤ w2.heap.size := by rw [hH] at hsz; omega
  refine ⟨ss ++ [(l, s)], by simp [hl], by rw [List.length_append, cells5_snoc ts ss a (l, s) hl]; exact hown, fun i h1 h2 => ?_⟩
  by_cases hi : i < ts.length
  · rw [List.getElem_append_left hi]
    have e1 : (ss ++ [(l, s)])[i] = ss[i]'(by omega) := List.getElem_append_left (by omega)
    rw [e1]
    refine tmP_move (fun b hlt hp => ?_) (Nat.le_trans hb.size hge) _ _ _ (hk i hi (by omega))
    have hlt1 := Nat.lt_of_lt_of_le hlt hb.size
    exact ⟨⟨hp.1, hne b hlt1 hp.2⟩, (keep1 b hlt1 hp.2).trans (hb.block b hlt)⟩
  · have hi2 : i = ts.length := by rw [List.length_append, List.length_singleton] at h1; omega
    subst hi2
    have hl2 : ss.length ≤ ts.length := by omega
    rw [List.getElem_append_right (Nat.le_refl _)]
    have e1 : (ss ++ [(l, s)])[ts.length] = (l, s) := by rw [List.getElem_append_right hl2]; simp [hl]
    rw [e1]
    simp only [Nat.sub_self, List.getElem_singleton]
    exact tmP_move (fun b hlt hp => ⟨⟨hp.1, hne b hlt hp.2⟩, keep1 b hlt hp.2⟩) hge a _ _ hs
theorem own_lt {w0 : World} {base T sz n : Nat} {V : Value} {cs : List Value} (ho : w0.ownsRow base T sz V n cs) : ∀ b, V.ownBlock = some b → base ≤ b ∧ b < w0.heap.size := fun b hb => by
  rcases ho.2 with ⟨rfl, _⟩ | ⟨g', cap', cur, rfl, hbg, hgr, _⟩
  · cases hb
  · cases hb
    refine ⟨hbg, ?_⟩
    rcases Nat.lt_or_ge g' w0.heap.size with h | h
    · exact h
    · rw [Array.getElem?_eq_none h] at hgr; cases hgr
/-- What lies in newer blocks is not in the row. -/
theorem tmP_new {w0 w1 : World} {base T sz n : Nat} {V : Value} {cs : List Value} (ho : w0.ownsRow base T sz V n cs) (hbase : base ≤ w0.heap.size) {t : Tm} {l s : Value} (h : TmP w1 (fun b => w0.heap.size ≤ b) t l s) : TmP w1 (fun b => base ≤ b ∧ V.ownBlock ≠ some b) t l s :=
  tmP_weak (fun b hb => ⟨Nat.le_trans hbase hb, fun e => by have := (own_lt ho b e).2; omega⟩) h
theorem tmP_one {w : World} {P : Nat → Prop} {t : Tm} {l s : Value} (h : TmP w P t l s) : l.oneCell' = true ∧ s.oneCell' = true := by
  obtain ⟨⟨a, n, c, rfl⟩, a', n', c', rfl⟩ := tmP_slices h
  exact ⟨rfl, rfl⟩
theorem five_oneCell {x y : Int} {m : ByteArray} {l s : Value} (hl : l.oneCell' = true) (hs : s.oneCell' = true) : ∀ u ∈ [Value.int .i64 x, Value.int .i64 y, .string m, l, s], u.oneCell' = true := by
  intro u hu
  simp at hu
  rcases hu with rfl | rfl | rfl | rfl | rfl
  · rfl
  · rfl
  · rfl
  · exact hl
  · exact hs
theorem ownT_move {w w' : World} {base : Nat} {V : Value} {ts : List Tm} (h : OwnT w base V ts) (hb : ∀ b, b < w.heap.size → base ≤ b → w'.heap[b]? = w.heap[b]?) (hs : w.heap.size ≤ w'.heap.size) : OwnT w' base V ts := by
  obtain ⟨ss, hl, ho, hk⟩ := h
  refine ⟨ss, hl, ⟨ho.1, ?_⟩, fun i h1 h2 => tmP_move (fun b hlt hp => ⟨hp, hb b hlt hp.1⟩) hs _ _ _ (hk i h1 h2)⟩
  rcases ho.2 with h1 | ⟨g, cap, cur, rfl, hbg, hg, h4⟩
  · exact .inl h1
  · exact .inr ⟨g, cap, cur, rfl, hbg, (hb g (own_lt ho g rfl).2 hbg).trans hg, h4⟩
/-- The row as a slice of terms. -/
theorem ownT_tsP {w : World} {base : Nat} {V : Value} {ts : List Tm} (h : OwnT w base V ts) : ∃ A len cap, V = .slice A len cap ∧ ts.length = len ∧ len ≤ cap ∧ (A = none → cap = 0) ∧ TsP w (fun b => base ≤ b) A 0 ts := by
  obtain ⟨ss, hls, ho, hk⟩ := h
  rcases ho.2 with ⟨rfl, h0⟩ | ⟨g, cap, cur, rfl, hbg, hg, hn, hm, hs, ht⟩
  · have : ts = [] := List.length_eq_zero_iff.1 h0
    subst this
    exact ⟨none, 0, 0, rfl, rfl, Nat.le_refl _, fun _ => rfl, by rw [TsP]; trivial⟩
  · refine ⟨some ⟨g, 0, none⟩, ts.length, cap, rfl, rfl, hn, (fun e => by cases e), tsP_of ts 0 fun i hi => ?_⟩
    obtain ⟨c0, c1, c2, c3, c4⟩ := cells5_get ts ss i hi (by omega)
    refine ⟨g, 0, ss[i].1, ss[i].2, rfl, (ho.lt g rfl).2, hbg, ?_, ?_, ?_, ?_, ?_, ?_⟩
    · rw [Nat.zero_add, Nat.zero_add, ho.cellAt (i * 5) (by omega)]; exact c0
    · rw [Nat.zero_add, Nat.zero_add, ho.cellAt (i * 5 + 1) (by omega)]; exact c1
    · rw [Nat.zero_add, Nat.zero_add, ho.cellAt (i * 5 + 2) (by omega)]; exact c2
    · rw [Nat.zero_add, Nat.zero_add, ho.cellAt (i * 5 + 3) (by omega)]; exact c3
    · rw [Nat.zero_add, Nat.zero_add, ho.cellAt (i * 5 + 4) (by omega)]; exact c4
    · exact tmP_weak (fun b hp => hp.1) (hk i hi (by omega))
end Trm
end Go.Proofs.YtlijdgamobpndaaDoor
/-
  The contracts of the statements' helpers LevelNodes and Nodes: how many nodes, and a little more for long names.
  Conditions: the level and the term lie in memory as told by 'LvV' and 'TmV'; names of at most 2^47 bytes.
-/
namespace Go.Proofs.YtlijdgamobpndaaDoor
open Go.RowKit
open Lvl
set_option maxRecDepth 100000 in
set_option maxHeartbeats 1000000 in
theorem levelNodesT_up (most : Nat) (hm : most ≤ 100000) : ∀ (N : Nat) (t : Lv) (v : Value) (w : World), nodes t ≤ N → LvV w t v →
    Calls Tryd.prog 30 #[v, .int .i64 most] w (Ret w (.int .i64 (min (nodes t) (most + 1) : Nat))) := by
  intro N
  induction N with
  | zero => intro t v w h _; have := nodes_pos t; omega
  | succ N ih =>
  intro t v w hN hv
  obtain ⟨s, rfl, hs⟩ := hv
  cases t with
  | mk k n ts =>
  rw [LvS] at hs
  obtain ⟨A, len, cap, rfl, h1, h2, h2b, h3, h4⟩ := hs
  have IH := Lib.hid ih
  have HS := Lib.hid h4
  have HN := Lib.hid h1
  have HNN : Hid (nodesL ts ≤ N) := by
    rw [nodes] at hN
    have : nodesL ts ≤ N := by omega
    exact this
  obtain ⟨R, hR⟩ : ∃ R, min (nodes (.mk k n ts)) (most + 1) = R := ⟨_, rfl⟩
  have HR : Hid (min (1 + nodesL ts) (most + 1) = R) := by rw [nodes] at hR; exact hR
  rw [hR]
  clear h4 h1 h3 hN hR ih
  go_enter Tryd.func30, Tryd.ntmps30
  go_wp2_with fail
  obtain ⟨_, _, hbox⟩ := box_cells w (.int .i64 (kindOf (Lv.mk k n ts))) (.int .i64 (numOf (Lv.mk k n ts))) (.slice A len cap) 63
  have HB := Lib.hid (below_lit w (.cells #[.int .i64 (kindOf (Lv.mk k n ts)), .int .i64 (numOf (Lv.mk k n ts)), .slice A len cap] 63))
  have hsz : w.heap.size < (w.alloc (.cells #[.int .i64 (kindOf (Lv.mk k n ts)), .int .i64 (numOf (Lv.mk k n ts)), .slice A len cap] 63)).heap.size := by simp
  generalize w.alloc (.cells #[.int .i64 (kindOf (Lv.mk k n ts)), .int .i64 (numOf (Lv.mk k n ts)), .slice A len cap] 63) = W at *
  have HBX := Lib.hid hbox
  clear hbox
  go_loopw [5, 6] (fun c i wr => ∃ j acc : Nat, j ≤ len ∧ i = .int .i64 j ∧ c = .int .i64 acc ∧ Hid (CntTo most j acc ts) ∧ acc ≤ 2 * most + 2 ∧ Below W.heap.size W wr) (fun _ i _ => len - (intOf i).toNat)
  case atStart => exact ⟨0, 1, Nat.zero_le _, rfl, rfl, ⟨by simp [nodesL], by omega⟩, by omega, Below.refl _ _⟩
  case round =>
    obtain ⟨j, acc, hj, rfl, rfl, hc, ha, hb⟩ := hrel
    have HBW := Lib.hid hb
    have hbox := (hb.cell (p := ⟨w.heap.size, 2, none⟩) hsz).trans HBX.out
    have hsz2 : w.heap.size < wr.heap.size := Nat.lt_of_lt_of_le hsz hb.size
    have HSW := Lib.hid (lsV_below (HB.out.trans (hb.mono HB.out.size)) _ _ _ HS.out)
    clear hb
    by_cases hlt : j < len
    · have hx1 : j < ts.length := by rw [HN.out]; exact hlt
      have hln : decide ((j : Int) < (len : Int)) = true := by simp; omega
      by_cases hmo : acc ≤ most
      · have hd : decide ((acc : Int) ≤ (most : Int)) = true := by simp; omega
        obtain ⟨b, o, s, rfl, hb, hc0, hc1, hc2, hls⟩ := lsV_get HSW.out j hx1
        have hlt2 := Nat.lt_of_lt_of_le hb (Nat.le_refl _)
        have HLS : Hid (LvV wr ts[j] (.agg #[.int .i64 (kindOf ts[j]), .int .i64 (numOf ts[j]), s])) := ⟨s, rfl, hls⟩
        have HTN : Hid (nodes ts[j] ≤ N) := Nat.le_trans (nodes_mem (List.getElem_mem hx1)) HNN.out
        have HNT := Lib.hid (nodesL_take hx1)
        generalize kindOf ts[j] = ki at *
        generalize numOf ts[j] = nu at *
        generalize ts[j] = tj at *
        clear hls hlt2
        go_wp2_with fail
        refine (IH.out tj _ wr HTN.out HLS.out).mono ?_
        rintro e w2 ⟨rfl, hb2⟩
        obtain ⟨q, hq⟩ : ∃ q, min (nodes tj) (most + 1) = q := ⟨_, rfl⟩
        have hq2 : q ≤ most + 1 := by omega
        have HC2 : Hid (CntTo most (j + 1) (acc + q) ts) := by
          obtain ⟨h1, h2⟩ := hc.out
          refine ⟨?_, by omega⟩
          rw [HNT.out, ← hq]
          omega
        have HBW2 := Lib.hid (HBW.out.trans (hb2.mono HBW.out.size))
        rw [hq]
        clear hb2 hq HNT HTN HLS
        go_wp2_with fail
        go_roundw
        case rel => exact ⟨j + 1, acc + q, by omega, by go_num, by go_num, HC2, by omega, HBW2.out⟩
        case measure => simp [intOf]; omega
      · have hd : decide ((acc : Int) ≤ (most : Int)) = false := by simp; omega
        have HF : Hid (R = most + 1) := by
          obtain ⟨h1, _⟩ := hc.out
          have h2 := nodesL_le ts j
          have h3 := HR.out
          have : R = most + 1 := by omega
          exact this
        by_cases hmo1 : acc = most + 1
        · have HF2 : Hid (R = acc) := HF.out.trans hmo1.symm
          have hmi : (acc : Int) ≤ (most : Int) + 1 := by omega
          clear hmo1
          go_wp2_with fail
          go_ret
          exact ⟨by rw [HF2.out]; rfl, HB.out.trans (HBW.out.mono HB.out.size)⟩
        · have hmi : (most : Int) + 1 < (acc : Int) := by omega
          go_wp2_with fail
          go_ret
          exact ⟨by rw [HF.out]; rfl, HB.out.trans (HBW.out.mono HB.out.size)⟩
    · have hln : decide ((j : Int) < (len : Int)) = false := by simp; omega
      have HF : Hid (R = min acc (most + 1)) := by
        obtain ⟨h1, _⟩ := hc.out
        rw [List.take_of_length_le (by rw [HN.out]; omega)] at h1
        have h3 := HR.out
        have : R = min acc (most + 1) := by omega
        exact this
      by_cases hmo : acc ≤ most + 1
      · have hmi : (acc : Int) ≤ (most : Int) + 1 := by omega
        have HF2 : Hid (R = acc) := by
          have := HF.out
          have : R = acc := by omega
          exact this
        go_wp2_with fail
        go_ret
        exact ⟨by rw [HF2.out]; rfl, HB.out.trans (HBW.out.mono HB.out.size)⟩
      · have hmi : (most : Int) + 1 < (acc : Int) := by omega
        have HF2 : Hid (R = most + 1) := by
          have := HF.out
          have : R = most + 1 := by omega
          exact this
        go_wp2_with fail
        go_ret
        exact ⟨by rw [HF2.out]; rfl, HB.out.trans (HBW.out.mono HB.out.size)⟩
theorem levelNodesT_is (t : Lv) (v : Value) (most : Nat) (w : World) (hv : LvV w t v) (hm : most ≤ 100000) (R : Nat) (hR : min (nodes t) (most + 1) = R) :
    Calls Tryd.prog 30 #[v, .int .i64 most] w (Ret w (.int .i64 R)) := by
  subst hR
  exact levelNodesT_up most hm (nodes t) t v w (Nat.le_refl _) hv
namespace Trm
mutual
/-- The nodes, and one more for every sixteen bytes of a name. -/
def rn : Tm → Nat
  | .mk _ _ m ls ts => 1 + m.size / 16 + nodesL ls + rnL ts
def rnL : List Tm → Nat
  | [] => 0
  | a :: ts => rn a + rnL ts
end
mutual
def nmOk : Tm → Prop
  | .mk _ _ m _ ts => m.size ≤ 140737488355328 ∧ nmOkL ts
def nmOkL : List Tm → Prop
  | [] => True
  | a :: ts => nmOk a ∧ nmOkL ts
end
theorem nmOkL_mem {a : Tm} : ∀ {ts : List Tm}, nmOkL ts → a ∈ ts → nmOk a
  | b :: ts, h, hm => by
    rw [nmOkL] at h
    rcases List.mem_cons.1 hm with rfl | hm
    · exact h.1
    · exact nmOkL_mem h.2 hm
theorem rnL_append : ∀ (l k : List Tm), rnL (l ++ k) = rnL l + rnL k
  | [], k => by rw [List.nil_append, rnL]; omega
  | a :: l, k => by rw [List.cons_append, rnL, rnL, rnL_append l k]; omega
theorem rnL_take {ts : List Tm} {j : Nat} (h : j < ts.length) : rnL (ts.take (j + 1)) = rnL (ts.take j) + rn ts[j] := by
  rw [List.take_add_one, List.getElem?_eq_getElem h, rnL_append]
  simp [rnL]
theorem rnL_le (ts : List Tm) (j : Nat) : rnL (ts.take j) ≤ rnL ts := by
  have := rnL_append (ts.take j) (ts.drop j)
  rw [List.take_append_drop] at this
  omega
theorem name_part {s M : Nat} (hM : M = s / 16) (hs : s ≤ 140737488355328) : M ≤ 8796093022208 := by
  rw [hM]
  exact Nat.le_trans (Nat.div_le_div_right hs) (by decide)
theorem name_wrap {s M : Nat} (hM : M = s / 16) (hs : s ≤ 140737488355328) : wrap64 (1 + wrap64 ((s : Int) / 16)) = ((1 + M : Nat) : Int) := by
  have h0 := name_part hM hs
  have h1 : (s : Int) / 16 = (M : Int) := by
    rw [hM]
    rfl
  clear hM hs
  rw [h1, IntWalk.wrap64_in (M : Int) ⟨by omega, by omega⟩, IntWalk.wrap64_in (1 + (M : Int)) ⟨by omega, by omega⟩]
  exact (Int.natCast_add 1 M).symm
/-- So many are counted, if not too many. -/
def RCnt (most acc n : Nat) : Prop := min acc (most + 1) = min n (most + 1)

set_option maxRecDepth 100000 in
set_option maxHeartbeats 4000000 in
theorem rnodes_up (most : Nat) (hm : most ≤ 100000) : ∀ (N : Nat) (t : Tm) (v : Value) (w : World), tnodes t ≤ N → nmOk t → TmV w t v →
    Calls Tryd.prog 22 #[v, .int .i64 most] w (Ret w (.int .i64 (min (rn t) (most + 1) : Nat))) := by
  intro N
  induction N with
  | zero => intro t v w h _; have := tnodes_pos t; omega
  | succ N ih =>
  intro t v w hN hnm hv
  obtain ⟨l, s, rfl, ht⟩ := hv
  obtain ⟨⟨la, ll, lc, rfl⟩, sa, sl, sc, rfl⟩ := tmP_slices ht
  cases t with
  | mk k n m ls ts =>
  rw [TmP] at ht
  obtain ⟨hlv, A', len', cap', e9, hlen, hlc', hl47, hnone, hts⟩ := ht
  cases e9
  have h2 := lvS_of _ _ hlv
  rw [LvS] at h2
  obtain ⟨C, lcn, cc, e8, hll, _, hll47, _, hls⟩ := h2
  cases e8
  rw [nmOk] at hnm
  rw [tnodes] at hN
  have IH := Lib.hid ih
  have HTS := Lib.hid hts
  have HLS := Lib.hid hls
  have HLEN := Lib.hid hlen
  have HLL := Lib.hid hll
  have HNM := Lib.hid hnm.2
  have hms := hnm.1
  have HTN : Hid (tnodesL ts ≤ N) := by
    have : tnodesL ts ≤ N := by omega
    exact this
  obtain ⟨R, hR⟩ : ∃ R, min (rn (.mk k n m ls ts)) (most + 1) = R := ⟨_, rfl⟩
  rw [hR]
  rw [rn] at hR
  have HR := Lib.hid hR
  obtain ⟨M, hM⟩ : ∃ M, M = m.size / 16 := ⟨_, rfl⟩
  have hMl : M ≤ 8796093022208 := name_part hM hms
  have hwr : wrap64 (1 + wrap64 ((m.size : Int) / 16)) = ((1 + M : Nat) : Int) := name_wrap hM hms
  have HM' := Lib.hid hM
  clear hms hM
  show Calls _ _ #[.agg #[.int .i64 k, .int .i64 n, .string m, .slice la ll lc, .slice sa sl sc], .int .i64 most] w _
  clear ih hts hls hlen hll hlv hnm hN hR hnone hlc'
  go_enter Tryd.func22, Tryd.ntmps22
  go_wp2_with fail
  have z1 : (w.alloc (.cells #[.int .i64 k, .int .i64 n, .string m, .slice la ll lc, .slice sa sl sc] 25)).heap.size = w.heap.size + 1 := by simp
  have r0 : (w.alloc (.cells #[.int .i64 k, .int .i64 n, .string m, .slice la ll lc, .slice sa sl sc] 25)).heap[w.heap.size]? = some (Obj.cells #[.int .i64 k, .int .i64 n, .string m, .slice la ll lc, .slice sa sl sc] 25 (0, 0)) := by
    have := heap_alloc_new w (.cells #[.int .i64 k, .int .i64 n, .string m, .slice la ll lc, .slice sa sl sc] 25)
    exact this
  have HB := Lib.hid (below_lit w (.cells #[.int .i64 k, .int .i64 n, .string m, .slice la ll lc, .slice sa sl sc] 25))
  have HR0 := Lib.hid (r0)
  clear r0
  try generalize (w.alloc (.cells #[.int .i64 k, .int .i64 n, .string m, .slice la ll lc, .slice sa sl sc] 25)) = W at *
  have HZ := Lib.hid z1
  clear z1
  try rw [hwr]
  have hsz1 := HZ.out
  have hw0 : w.heap.size < W.heap.size := by omega
  go_loopw [5, 6] (fun c i wr => ∃ j acc : Nat, j ≤ ll ∧ i = .int .i64 j ∧ c = .int .i64 acc ∧ Hid (RCnt most acc (1 + m.size / 16 + nodesL (ls.take j))) ∧ acc ≤ 8796093022208 + 2 + 2 * most ∧ Hid (Below W.heap.size W wr)) (fun _ i _ => ll - (intOf i).toNat)
  case atStart =>
    have h0 : RCnt most (1 + M) (1 + m.size / 16 + nodesL (ls.take 0)) := by
      rw [HM'.out, List.take_zero, nodesL]
      rfl
    exact ⟨0, 1 + M, Nat.zero_le _, rfl, rfl, h0, by omega, Below.refl _ _⟩
  case round =>
    obtain ⟨j, acc, hj, rfl, rfl, hc, ha, hb⟩ := hrel
    have HBW := hb
    obtain ⟨a0, a1, a2, a3, a4⟩ := five_cells ((hb.out.block w.heap.size hw0).trans HR0.out)
    by_cases hlt : j < ll
    · have hx1 : j < ls.length := by rw [HLL.out]; exact hlt
      have hln : decide ((j : Int) < (ll : Int)) = true := by simp; omega
      by_cases hmo : acc ≤ most
      · have hd : decide ((acc : Int) ≤ (most : Int)) = true := by simp; omega
        obtain ⟨b, o, s, eA, hbs, hc0, hc1, hc2, hls⟩ := lsV_get HLS.out j hx1
        subst eA
        have hBw := HB.out.trans (hb.out.mono HB.out.size)
        have d0 := (hBw.cell (p := ⟨b, _, none⟩) hbs).trans hc0
        have d1 := (hBw.cell (p := ⟨b, _, none⟩) hbs).trans hc1
        have d2 := (hBw.cell (p := ⟨b, _, none⟩) hbs).trans hc2
        obtain ⟨q, hq⟩ : ∃ q, min (nodes ls[j]) (most + 1) = q := ⟨_, rfl⟩
        have HCALL := Lib.hid (levelNodesT_is ls[j] (.agg #[.int .i64 (kindOf ls[j]), .int .i64 (numOf ls[j]), s]) most wr ⟨s, rfl, lvS_below hBw _ _ hls⟩ hm q hq)
        have HNT := Lib.hid (nodesL_take hx1)
        have HC2 : Hid (RCnt most (acc + q) (1 + m.size / 16 + nodesL (ls.take (j + 1)))) := by
          have h1 := hc.out
          have : RCnt most (acc + q) (1 + m.size / 16 + nodesL (ls.take (j + 1))) := by
            unfold RCnt at h1 ⊢
            rw [HNT.out, ← hq]
            omega
          exact this
        have hq2 : q ≤ most + 1 := by omega
        have q1 : (0 : Int) ≤ (j : Int) := by omega
        have q2 : (j : Int) < (ll : Int) := by omega
        generalize kindOf ls[j] = ka at *
        generalize numOf ls[j] = na at *
        clear hc0 hc1 hc2 hls hq HNT hBw
        go_wp2_with fail
        refine HCALL.out.mono ?_
        rintro e w2 ⟨rfl, hb2⟩
        have HBW2 := Lib.hid (HBW.out.trans (hb2.mono HBW.out.size))
        clear hb2
        go_wp2_with fail
        go_roundw
        case rel => exact ⟨_, _, _, _, _, _, _, _, _, _, _, _, _, _, _, _, _, _, _, _, _, _, _, ⟨j + 1, acc + q, by omega, by go_num, by go_num, HC2, by omega, HBW2.out⟩, rfl⟩
        case measure => simp [intOf]; omega
      · have hd : decide ((acc : Int) ≤ (most : Int)) = false := by simp; omega
        have HC0 : Hid (RCnt most acc (1 + m.size / 16 + nodesL ls + rnL (ts.take 0))) := by
          have h1 := hc.out
          have h2 := nodesL_le ls j
          have : RCnt most acc (1 + m.size / 16 + nodesL ls + rnL (ts.take 0)) := by
            unfold RCnt at h1 ⊢
            omega
          exact this
        go_wp2_with fail
        generalize wr = Wq at *
        go_loopw [5, 7] (fun c i wr => ∃ j acc : Nat, j ≤ sl ∧ i = .int .i64 j ∧ c = .int .i64 acc ∧ Hid (RCnt most acc (1 + m.size / 16 + nodesL ls + rnL (ts.take j))) ∧ acc ≤ 8796093022208 + 2 + 4 * most ∧ Hid (Below W.heap.size W wr)) (fun _ i _ => sl - (intOf i).toNat)
        case atStart => exact ⟨0, acc, Nat.zero_le _, rfl, rfl, HC0.out, by omega, HBW.out⟩
        case round =>
          obtain ⟨j, acc, hj, rfl, rfl, hc, ha, hb⟩ := hrel
          have HBW := hb
          obtain ⟨a0, a1, a2, a3, a4⟩ := five_cells ((hb.out.block w.heap.size (by omega)).trans HR0.out)
          by_cases hlt : j < sl
          · have hx1 : j < ts.length := by rw [HLEN.out]; exact hlt
            have hln : decide ((j : Int) < (sl : Int)) = true := by simp; omega
            by_cases hmo : acc ≤ most
            · have hd : decide ((acc : Int) ≤ (most : Int)) = true := by simp; omega
              obtain ⟨bk, o, l1, s1, eA, hbs, _, hc0, hc1, hc2, hc3, hc4, htm⟩ := tsP_get HTS.out j hx1
              subst eA
              obtain ⟨⟨xa, xl, xc, rfl⟩, ya, yl, yc, rfl⟩ := tmP_slices htm
              have hBw := HB.out.trans (hb.out.mono HB.out.size)
              have d0 := (hBw.cell (p := ⟨bk, _, none⟩) hbs).trans hc0
              have d1 := (hBw.cell (p := ⟨bk, _, none⟩) hbs).trans hc1
              have d2 := (hBw.cell (p := ⟨bk, _, none⟩) hbs).trans hc2
              have d3 := (hBw.cell (p := ⟨bk, _, none⟩) hbs).trans hc3
              have d4 := (hBw.cell (p := ⟨bk, _, none⟩) hbs).trans hc4
              have hcall := IH.out ts[j] (tv ts[j] (.slice xa xl xc) (.slice ya yl yc)) wr (Nat.le_trans (tnodes_mem (List.getElem_mem hx1)) HTN.out) (nmOkL_mem HNM.out (List.getElem_mem hx1)) ⟨_, _, rfl, tmP_below hBw htm⟩
              have HNT := Lib.hid (rnL_take hx1)
              obtain ⟨q, hq⟩ : ∃ q, min (rn ts[j]) (most + 1) = q := ⟨_, rfl⟩
              rw [hq] at hcall
              have HCALL := Lib.hid hcall
              dsimp only [tv] at HCALL
              have HC2 : Hid (RCnt most (acc + q) (1 + m.size / 16 + nodesL ls + rnL (ts.take (j + 1)))) := by
                have h1 := hc.out
                have : RCnt most (acc + q) (1 + m.size / 16 + nodesL ls + rnL (ts.take (j + 1))) := by
                  unfold RCnt at h1 ⊢
                  rw [HNT.out, ← hq]
                  omega
                exact this
              have hq2 : q ≤ most + 1 := by omega
              have q1 : (0 : Int) ≤ (j : Int) := by omega
              have q2 : (j : Int) < (sl : Int) := by omega
              generalize tkOf ts[j] = ka at *
              generalize tnOf ts[j] = na at *
              generalize tmOf ts[j] = ma at *
              clear hcall hc0 hc1 hc2 hc3 hc4 htm hq HNT hBw
              go_wp2_with fail
              refine HCALL.out.mono ?_
              rintro e w2 ⟨rfl, hb2⟩
              have HBW2 := Lib.hid (HBW.out.trans (hb2.mono HBW.out.size))
              clear hb2
              go_wp2_with fail
              go_roundw
              case rel => exact ⟨_, _, _, _, _, _, _, _, _, _, _, _, _, _, _, _, _, _, _, _, _, _, _, ⟨j + 1, acc + q, by omega, by go_num, by go_num, HC2, by omega, HBW2.out⟩, rfl⟩
              case measure => simp [intOf]; omega
            · have hd : decide ((acc : Int) ≤ (most : Int)) = false := by simp; omega
              have hle := Lib.hid (rnL_le ts j)
              by_cases hmo : acc ≤ most + 1
              · have hmi : (acc : Int) ≤ (most : Int) + 1 := by omega
                have HF2 : Hid (R = acc) := by
                  have h1 := hc.out
                  have h3 := HR.out
                  have : R = acc := by unfold RCnt at h1; have h4 := hle.out; omega
                  exact this
                go_wp2_with fail
                go_ret
                exact ⟨by rw [HF2.out]; rfl, HB.out.trans (HBW.out.mono HB.out.size)⟩
              · have hmi : (most : Int) + 1 < (acc : Int) := by omega
                have HF2 : Hid (R = most + 1) := by
                  have h1 := hc.out
                  have h3 := HR.out
                  have : R = most + 1 := by unfold RCnt at h1; have h4 := hle.out; omega
                  exact this
                go_wp2_with fail
                go_ret
                exact ⟨by rw [HF2.out]; rfl, HB.out.trans (HBW.out.mono HB.out.size)⟩
          · have hln : decide ((j : Int) < (sl : Int)) = false := by simp; omega
            have hle := Lib.hid (show ts.take j = ts from List.take_of_length_le (by rw [HLEN.out]; omega))
            by_cases hmo : acc ≤ most + 1
            · have hmi : (acc : Int) ≤ (most : Int) + 1 := by omega
              have HF2 : Hid (R = acc) := by
                have h1 := hc.out
                have h3 := HR.out
                have : R = acc := by unfold RCnt at h1; rw [hle.out] at h1; omega
                exact this
              go_wp2_with fail
              go_ret
              exact ⟨by rw [HF2.out]; rfl, HB.out.trans (HBW.out.mono HB.out.size)⟩
            · have hmi : (most : Int) + 1 < (acc : Int) := by omega
              have HF2 : Hid (R = most + 1) := by
                have h1 := hc.out
                have h3 := HR.out
                have : R = most + 1 := by unfold RCnt at h1; rw [hle.out] at h1; omega
                exact this
              go_wp2_with fail
              go_ret
              exact ⟨by rw [HF2.out]; rfl, HB.out.trans (HBW.out.mono HB.out.size)⟩
    · have hln : decide ((j : Int) < (ll : Int)) = false := by simp; omega
      have HC0 : Hid (RCnt most acc (1 + m.size / 16 + nodesL ls + rnL (ts.take 0))) := by
        have h1 := hc.out
        have : RCnt most acc (1 + m.size / 16 + nodesL ls + rnL (ts.take 0)) := by
          rw [List.take_of_length_le (by rw [HLL.out]; omega)] at h1
          rw [List.take_zero, rnL]
          exact h1
        exact this
      go_wp2_with fail
      generalize wr = Wq at *
      go_loopw [5, 7] (fun c i wr => ∃ j acc : Nat, j ≤ sl ∧ i = .int .i64 j ∧ c = .int .i64 acc ∧ Hid (RCnt most acc (1 + m.size / 16 + nodesL ls + rnL (ts.take j))) ∧ acc ≤ 8796093022208 + 2 + 4 * most ∧ Hid (Below W.heap.size W wr)) (fun _ i _ => sl - (intOf i).toNat)
      case atStart => exact ⟨0, acc, Nat.zero_le _, rfl, rfl, HC0.out, by omega, HBW.out⟩
      case round =>
        obtain ⟨j, acc, hj, rfl, rfl, hc, ha, hb⟩ := hrel
        have HBW := hb
        obtain ⟨a0, a1, a2, a3, a4⟩ := five_cells ((hb.out.block w.heap.size (by omega)).trans HR0.out)
        by_cases hlt : j < sl
        · have hx1 : j < ts.length := by rw [HLEN.out]; exact hlt
          have hln : decide ((j : Int) < (sl : Int)) = true := by simp; omega
          by_cases hmo : acc ≤ most
          · have hd : decide ((acc : Int) ≤ (most : Int)) = true := by simp; omega
            obtain ⟨bk, o, l1, s1, eA, hbs, _, hc0, hc1, hc2, hc3, hc4, htm⟩ := tsP_get HTS.out j hx1
            subst eA
            obtain ⟨⟨xa, xl, xc, rfl⟩, ya, yl, yc, rfl⟩ := tmP_slices htm
            have hBw := HB.out.trans (hb.out.mono HB.out.size)
            have d0 := (hBw.cell (p := ⟨bk, _, none⟩) hbs).trans hc0
            have d1 := (hBw.cell (p := ⟨bk, _, none⟩) hbs).trans hc1
            have d2 := (hBw.cell (p := ⟨bk, _, none⟩) hbs).trans hc2
            have d3 := (hBw.cell (p := ⟨bk, _, none⟩) hbs).trans hc3
            have d4 := (hBw.cell (p := ⟨bk, _, none⟩) hbs).trans hc4
            have hcall := IH.out ts[j] (tv ts[j] (.slice xa xl xc) (.slice ya yl yc)) wr (Nat.le_trans (tnodes_mem (List.getElem_mem hx1)) HTN.out) (nmOkL_mem HNM.out (List.getElem_mem hx1)) ⟨_, _, rfl, tmP_below hBw htm⟩
            have HNT := Lib.hid (rnL_take hx1)
            obtain ⟨q, hq⟩ : ∃ q, min (rn ts[j]) (most + 1) = q := ⟨_, rfl⟩
            rw [hq] at hcall
            have HCALL := Lib.hid hcall
            dsimp only [tv] at HCALL
            have HC2 : Hid (RCnt most (acc + q) (1 + m.size / 16 + nodesL ls + rnL (ts.take (j + 1)))) := by
              have h1 := hc.out
              have : RCnt most (acc + q) (1 + m.size / 16 + nodesL ls + rnL (ts.take (j + 1))) := by
                unfold RCnt at h1 ⊢
                rw [HNT.out, ← hq]
                omega
              exact this
            have hq2 : q ≤ most + 1 := by omega
            have q1 : (0 : Int) ≤ (j : Int) := by omega
            have q2 : (j : Int) < (sl : Int) := by omega
            generalize tkOf ts[j] = ka at *
            generalize tnOf ts[j] = na at *
            generalize tmOf ts[j] = ma at *
            clear hcall hc0 hc1 hc2 hc3 hc4 htm hq HNT hBw
            go_wp2_with fail
            refine HCALL.out.mono ?_
            rintro e w2 ⟨rfl, hb2⟩
            have HBW2 := Lib.hid (HBW.out.trans (hb2.mono HBW.out.size))
            clear hb2
            go_wp2_with fail
            go_roundw
            case rel => exact ⟨_, _, _, _, _, _, _, _, _, _, _, _, _, _, _, _, _, _, _, _, _, _, _, ⟨j + 1, acc + q, by omega, by go_num, by go_num, HC2, by omega, HBW2.out⟩, rfl⟩
            case measure => simp [intOf]; omega
          · have hd : decide ((acc : Int) ≤ (most : Int)) = false := by simp; omega
            have hle := Lib.hid (rnL_le ts j)
            by_cases hmo : acc ≤ most + 1
            · have hmi : (acc : Int) ≤ (most : Int) + 1 := by omega
              have HF2 : Hid (R = acc) := by
                have h1 := hc.out
                have h3 := HR.out
                have : R = acc := by unfold RCnt at h1; have h4 := hle.out; omega
                exact this
              go_wp2_with fail
              go_ret
              exact ⟨by rw [HF2.out]; rfl, HB.out.trans (HBW.out.mono HB.out.size)⟩
            · have hmi : (most : Int) + 1 < (acc : Int) := by omega
              have HF2 : Hid (R = most + 1) := by
                have h1 := hc.out
                have h3 := HR.out
                have : R = most + 1 := by unfold RCnt at h1; have h4 := hle.out; omega
                exact this
              go_wp2_with fail
              go_ret
              exact ⟨by rw [HF2.out]; rfl, HB.out.trans (HBW.out.mono HB.out.size)⟩
        · have hln : decide ((j : Int) < (sl : Int)) = false := by simp; omega
          have hle := Lib.hid (show ts.take j = ts from List.take_of_length_le (by rw [HLEN.out]; omega))
          by_cases hmo : acc ≤ most + 1
          · have hmi : (acc : Int) ≤ (most : Int) + 1 := by omega
            have HF2 : Hid (R = acc) := by
              have h1 := hc.out
              have h3 := HR.out
              have : R = acc := by unfold RCnt at h1; rw [hle.out] at h1; omega
              exact this
            go_wp2_with fail
            go_ret
            exact ⟨by rw [HF2.out]; rfl, HB.out.trans (HBW.out.mono HB.out.size)⟩
          · have hmi : (most : Int) + 1 < (acc : Int) := by omega
            have HF2 : Hid (R = most + 1) := by
              have h1 := hc.out
              have h3 := HR.out
              have : R = most + 1 := by unfold RCnt at h1; rw [hle.out] at h1; omega
              exact this
            go_wp2_with fail
            go_ret
            exact ⟨by rw [HF2.out]; rfl, HB.out.trans (HBW.out.mono HB.out.size)⟩
end Trm
end Go.Proofs.YtlijdgamobpndaaDoor
/-
  The contract of the reference's inst: a level with others in place of its parameters, in new memory.
  Conditions: the level lies in memory as told by 'LvV', each of its nodes is right for as many parameters as there are others; all have at most 1000 nodes.
-/
namespace Go.Proofs.YtlijdgamobpndaaDoor
open Go.RowKit
open Lvl

namespace Lvl
mutual
/-- The level with others in place of its parameters. -/
def instF (bs : List Lv) : Lv → Lv
  | .mk k n ts => if k = 2 then bs.getD n.toNat (.mk k n ts) else .mk k n (instL bs ts)
def instL (bs : List Lv) : List Lv → List Lv
  | [] => []
  | a :: ts => instF bs a :: instL bs ts
end
theorem instL_map (bs : List Lv) : ∀ ts : List Lv, instL bs ts = ts.map (instF bs)
  | [] => by rw [instL]; rfl
  | a :: ts => by rw [instL, instL_map bs ts, List.map_cons]
theorem okB_args {m k n : Int} {ts : List Lv} (h : okB m (.mk k n ts) = true) (hk : k ≠ 2) : ∀ a ∈ ts, okB m a = true := by
  intro a ha
  rw [okB, if_neg hk, okL_all] at h
  by_cases h1 : k = 1
  · rw [if_pos h1] at h
    simp at h
    have : ts = [] := h.2
    rw [this] at ha
    cases ha
  · rw [if_neg h1] at h
    by_cases h3 : k = 3
    · rw [if_pos h3] at h
      simp at h
      exact h.2 a ha
    · rw [if_neg h3] at h
      by_cases h4 : k = 4 ∨ k = 5
      · rw [if_pos h4] at h
        simp at h
        exact h.2 a ha
      · rw [if_neg h4] at h
        cases h
theorem okB_par {m n : Int} {ts : List Lv} (h : okB m (.mk 2 n ts) = true) : 0 ≤ n ∧ n < m := by
  rw [okB] at h
  simp at h
  exact ⟨h.1.1, h.1.2⟩
end Lvl
/-- The value is a row of these levels. -/
def LvL (w : World) (V : Value) (bs : List Lv) : Prop := LvS w (.mk 0 0 bs) V
theorem LvL.below {w w' : World} {V : Value} {bs : List Lv} (h : LvL w V bs) (hb : Below w.heap.size w w') : LvL w' V bs := lvS_below hb _ _ h

end Go.Proofs.YtlijdgamobpndaaDoor
/-
  The contracts of the program's functions each, copied, put.
  Conditions: each text's own.
-/
namespace Go.Proofs.YtlijdgamobpndaaDoor
open Go.RowKit
open Lvl

end Go.Proofs.YtlijdgamobpndaaDoor
/-
  The contracts of the program's functions each (over put's closure) and put.
  Conditions: each text's own.
-/
namespace Go.Proofs.YtlijdgamobpndaaDoor
open Go.RowKit
open Lvl

theorem below_2 (w : World) (O O' : Obj) : Below w.heap.size w ((w.alloc O).alloc O') := (below_lit w O).trans ((below_lit _ O').mono (by simp))
theorem row_2 (w : World) (O O' : Obj) : ((w.alloc O).alloc O').heap[w.heap.size + 1]? = some O' := by
  have := heap_alloc_new (w.alloc O) O'
  rwa [show (w.alloc O).heap.size = w.heap.size + 1 by simp] at this
end Go.Proofs.YtlijdgamobpndaaDoor
/-
  The contracts of the program's functions own, node, Num, Param, Succ, IMax, Max: levels in new memory.
  Conditions: each text's own.
-/
namespace Go.Proofs.YtlijdgamobpndaaDoor
open Go.RowKit
open Lvl

/-- A level without arguments, as a value. -/
theorem lvV_leaf (w : World) (k n : Int) : LvV w (.mk k n []) (.agg #[.int .i64 k, .int .i64 n, .slice none 0 0]) := by
  refine ⟨_, rfl, ?_⟩
  rw [LvS]
  exact ⟨none, 0, 0, rfl, rfl, Nat.le_refl _, by omega, fun _ => rfl, by rw [LsV]; trivial⟩
/-- A level without arguments. -/
theorem lvP_leaf (w : World) (P : Nat → Prop) (k n : Int) : LvP w P (.mk k n []) (.slice none 0 0) := by
  rw [LvP]
  exact ⟨none, 0, 0, rfl, rfl, Nat.le_refl _, by omega, fun _ => rfl, by rw [LsP]; trivial⟩
/-- A row of one level, laid into a block of its own. -/
theorem lvP_one_row {wA w' : World} {B B2 : Nat} {t : Lv} {s : Value} (hs : LvP wA (fun b => B ≤ b) t s) (hB : B ≤ B2) (hlt : B2 < w'.heap.size) (hrow : w'.heap[B2]? = some (.cells #[.int .i64 (kindOf t), .int .i64 (numOf t), s] 63 (0, 0))) (hk : Below wA.heap.size wA w') (k : Int) :
    LvP w' (fun b => B ≤ b) (.mk k 0 [t]) (.slice (some ⟨B2, 0, none⟩) 1 1) := by
  rw [LvP]
  refine ⟨some ⟨B2, 0, none⟩, 1, 1, rfl, rfl, Nat.le_refl _, by omega, (fun e => by cases e), lsP_of _ 0 fun i hi => ?_⟩
  obtain rfl : i = 0 := by simpa using hi
  refine ⟨B2, 0, s, rfl, hlt, hB, cell_of_row w' _ 0 _ 63 (0, 0) hrow, cell_of_row w' _ 1 _ 63 (0, 0) hrow, cell_of_row w' _ 2 _ 63 (0, 0) hrow, lvP_move (fun b hb hp => ⟨hp, hk.block b hb⟩) hk.size _ _ hs⟩
theorem lvP_two_row {wA w' : World} {P : Nat → Prop} {B2 : Nat} {t u : Lv} {s r : Value} (hs : LvP wA P t s) (hr : LvP wA P u r) (hB : P B2) (hlt : B2 < w'.heap.size) (hrow : w'.heap[B2]? = some (.cells #[.int .i64 (kindOf t), .int .i64 (numOf t), s, .int .i64 (kindOf u), .int .i64 (numOf u), r] 63 (0, 0))) (hk : Below wA.heap.size wA w') (k : Int) :
    LvP w' P (.mk k 0 [t, u]) (.slice (some ⟨B2, 0, none⟩) 2 2) := by
  rw [LvP]
  refine ⟨some ⟨B2, 0, none⟩, 2, 2, rfl, rfl, Nat.le_refl _, by omega, (fun e => by cases e), lsP_of _ 0 fun i hi => ?_⟩
  match i, hi with
  | 0, _ => exact ⟨B2, 0, s, rfl, hlt, hB, cell_of_row w' _ 0 _ 63 (0, 0) hrow, cell_of_row w' _ 1 _ 63 (0, 0) hrow, cell_of_row w' _ 2 _ 63 (0, 0) hrow, lvP_move (fun b hb hp => ⟨hp, hk.block b hb⟩) hk.size _ _ hs⟩
  | 1, _ => exact ⟨B2, 0, r, rfl, hlt, hB, cell_of_row w' _ 3 _ 63 (0, 0) hrow, cell_of_row w' _ 4 _ 63 (0, 0) hrow, cell_of_row w' _ 5 _ 63 (0, 0) hrow, lvP_move (fun b hb hp => ⟨hp, hk.block b hb⟩) hk.size _ _ hr⟩

theorem lvP_below {w w' : World} {P : Nat → Prop} {t : Lv} {s : Value} (h : LvP w P t s) (hb : Below w.heap.size w w') : LvP w' P t s := lvP_move (fun b hlt hp => ⟨hp, hb.block b hlt⟩) hb.size _ _ h
theorem lvP_weak {w : World} {P Q : Nat → Prop} {t : Lv} {s : Value} (h : LvP w P t s) (hq : ∀ b, P b → Q b) : LvP w Q t s := lvP_move (w := w) (w' := w) (fun b _ hp => ⟨hq b hp, rfl⟩) (Nat.le_refl _) _ _ h
theorem below_more {w w' w3 : World} {O : Obj} (h : Below w.heap.size w w') (h3 : Below (w'.alloc O).heap.size (w'.alloc O) w3) : Below w.heap.size w w3 := h.trans (((below_lit w' O).trans (h3.mono (below_lit w' O).size)).mono h.size)
theorem two_done {cur w3 : World} {P : Nat → Prop} {t u : Lv} {s r : Value} {k1 n1 k2 n2 : Int} (hs : LvP cur P t s) (hr : LvP cur P u r) (hB : P cur.heap.size) (e1 : kindOf t = k1) (e2 : numOf t = n1) (e3 : kindOf u = k2) (e4 : numOf u = n2)
    (h : Below (cur.alloc (.cells #[.int .i64 k1, .int .i64 n1, s, .int .i64 k2, .int .i64 n2, r] 63)).heap.size (cur.alloc (.cells #[.int .i64 k1, .int .i64 n1, s, .int .i64 k2, .int .i64 n2, r] 63)) w3) (k : Int) :
    LvP w3 P (.mk k 0 [t, u]) (.slice (some ⟨cur.heap.size, 0, none⟩) 2 2) := by
  have hlt : cur.heap.size < (cur.alloc (.cells #[.int .i64 k1, .int .i64 n1, s, .int .i64 k2, .int .i64 n2, r] 63)).heap.size := by simp
  exact lvP_two_row hs hr hB (Nat.lt_of_lt_of_le hlt h.size) (by rw [e1, e2, e3, e4]; exact (h.block _ hlt).trans (heap_alloc_new _ _)) ((below_lit cur _).trans (h.mono (below_lit cur _).size)) k
end Go.Proofs.YtlijdgamobpndaaDoor
/-
  The contracts of the program's functions each (over levels, each made anew), Max of one level, ownLevel.
  Conditions: each text's own.
-/
namespace Go.Proofs.YtlijdgamobpndaaDoor
open Go.RowKit
open Lvl
namespace Trm

end Trm
end Go.Proofs.YtlijdgamobpndaaDoor
/-
  Plain facts: a term's nodes in the order in which they are handed out, with how deep they stand, and in how many binders.
  Conditions: none.
-/
namespace Go.Proofs.YtlijdgamobpndaaDoor
open Lvl
namespace Trm

/-- How many binders a node of m arguments lays about its argument at place i. -/
def bndP (k : Int) (m i : Nat) : Nat := if (k = 5 ∨ k = 6 ∨ k = 7) ∧ i + 1 = m then 1 else 0
theorem bndP_le (k : Int) (m i : Nat) : bndP k m i ≤ 1 := by
  unfold bndP
  split <;> omega
mutual
/-- The nodes, each ahead of its arguments. -/
def pre : Tm → Nat → Nat → List (Tm × Nat × Nat)
  | .mk k n m ls ts, d, b => (.mk k n m ls ts, d, b) :: preL k ts.length ts 0 (d + 1) b
def preL (k : Int) (len : Nat) : List Tm → Nat → Nat → Nat → List (Tm × Nat × Nat)
  | [], _, _, _ => []
  | a :: ts, i, d, b => pre a d (b + bndP k len i) ++ preL k len ts (i + 1) d b
end
theorem preL_append (k : Int) (len : Nat) : ∀ (l r : List Tm) (i d b : Nat), preL k len (l ++ r) i d b = preL k len l i d b ++ preL k len r (i + l.length) d b
  | [], r, i, d, b => by rw [List.nil_append, preL, List.nil_append, List.length_nil, Nat.add_zero]
  | a :: l, r, i, d, b => by
    rw [List.cons_append, preL, preL, preL_append k len l r, List.append_assoc, List.length_cons, show i + 1 + l.length = i + (l.length + 1) by omega]
theorem preL_take (k : Int) (len : Nat) {ts : List Tm} {j : Nat} (h : j < ts.length) (d b : Nat) : preL k len (ts.take (j + 1)) 0 d b = preL k len (ts.take j) 0 d b ++ pre ts[j] d (b + bndP k len j) := by
  rw [List.take_add_one, List.getElem?_eq_getElem h, preL_append, Nat.zero_add, List.length_take, Nat.min_eq_left (by omega)]
  simp [preL]
mutual
theorem pre_len : ∀ (t : Tm) (d b : Nat), (pre t d b).length ≤ tnodes t
  | .mk k n m ls ts, d, b => by
    rw [pre, tnodes, List.length_cons]
    have := preL_len k ts.length ts 0 (d + 1) b
    omega
theorem preL_len (k : Int) (len : Nat) : ∀ (ts : List Tm) (i d b : Nat), (preL k len ts i d b).length ≤ tnodesL ts
  | [], _, _, _ => by rw [preL, List.length_nil]; omega
  | a :: ts, i, d, b => by
    rw [preL, tnodesL, List.length_append]
    have := pre_len a d (b + bndP k len i)
    have := preL_len k len ts (i + 1) d b
    omega
end
theorem preL_pfx (k : Int) (len : Nat) (ts : List Tm) (j d b : Nat) : preL k len (ts.take j) 0 d b <+: preL k len ts 0 d b := by
  have := preL_append k len (ts.take j) (ts.drop j) 0 d b
  rw [List.take_append_drop] at this
  exact ⟨_, this.symm⟩
theorem pre_head (t : Tm) (d b : Nat) : (t, d, b) ∈ pre t d b := by
  cases t
  rw [pre]
  exact List.mem_cons_self
end Trm
end Go.Proofs.YtlijdgamobpndaaDoor
