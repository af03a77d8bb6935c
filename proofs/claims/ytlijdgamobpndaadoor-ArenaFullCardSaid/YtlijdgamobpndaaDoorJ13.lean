import Derived.Test.YtlijdgamobpndaaDoorJ10
import Derived.Test.YtlijdgamobpndaaDoorJ11
import Derived.IntWalk
import Derived.Test.YtlijdgamobpndaaDoorJ12
/-
  What the walk of remade needs: terms made anew, node by node; boxes and rows of five cells a term; a region where two operations may come up.
  Conditions: each text's own.
-/
namespace Go.Proofs.YtlijdgamobpndaaDoor
open Go.RowKit
open Lvl
namespace Trm

mutual
/-- A term, each node of which, its arguments aside, was changed by how many binders it stands in. -/
def remT (f : Int → Int → List Lv → Int → Int × List Lv) : Tm → Int → Tm
  | .mk k n m ls ts, d => .mk k (f k n ls d).1 m (f k n ls d).2 (remL f k ts.length ts 0 d)
def remL (f : Int → Int → List Lv → Int → Int × List Lv) (k : Int) (len : Nat) : List Tm → Nat → Int → List Tm
  | [], _, _ => []
  | a :: ts, i, d => remT f a (d + (bndP k len i : Nat)) :: remL f k len ts (i + 1) d
end
theorem remL_length (f : Int → Int → List Lv → Int → Int × List Lv) (k : Int) (len : Nat) : ∀ (ts : List Tm) (i : Nat) (d : Int), (remL f k len ts i d).length = ts.length
  | [], _, _ => by rw [remL]
  | a :: ts, i, d => by rw [remL, List.length_cons, List.length_cons, remL_length f k len ts]
theorem remL_get (f : Int → Int → List Lv → Int → Int × List Lv) (k : Int) (len : Nat) : ∀ (ts : List Tm) (i : Nat) (d : Int) (j : Nat) (h : j < ts.length) (h2 : j < (remL f k len ts i d).length), (remL f k len ts i d)[j] = remT f ts[j] (d + (bndP k len (i + j) : Nat))
  | a :: ts, i, d, 0, _, _ => by simp only [remL, List.getElem_cons_zero, Nat.add_zero]
  | a :: ts, i, d, j + 1, h, h2 => by
    simp only [remL, List.getElem_cons_succ]
    have e : i + (j + 1) = i + 1 + j := by omega
    rw [e]
    exact remL_get f k len ts (i + 1) d j (by simpa using h) (by simpa [remL] using h2)
mutual
/-- Each node meets this, its levels are not too great. -/
def okC (C : Int → Int → List Lv → Int → Prop) : Tm → Int → Prop
  | .mk k n _ ls ts, d => (C k n ls d ∧ ∀ l ∈ ls, nodes l ≤ 1000) ∧ okCL C k ts.length ts 0 d
def okCL (C : Int → Int → List Lv → Int → Prop) (k : Int) (len : Nat) : List Tm → Nat → Int → Prop
  | [], _, _ => True
  | a :: ts, i, d => okC C a (d + (bndP k len i : Nat)) ∧ okCL C k len ts (i + 1) d
end
theorem okCL_get (C : Int → Int → List Lv → Int → Prop) (k : Int) (len : Nat) : ∀ (ts : List Tm) (i : Nat) (d : Int), okCL C k len ts i d → ∀ (j : Nat) (h : j < ts.length), okC C ts[j] (d + (bndP k len (i + j) : Nat))
  | a :: ts, i, d, h, 0, _ => by
    rw [okCL] at h
    exact h.1
  | a :: ts, i, d, h, j + 1, hj => by
    rw [okCL] at h
    have e : i + (j + 1) = i + 1 + j := by omega
    rw [e]
    exact okCL_get C k len ts (i + 1) d h.2 j (by simpa using hj)

/-- What remade's third argument does: it changes a node that lies in a box. -/
def ChgC (w0 : World) (F : Nat) (lb : Array Value) (f : Int → Int → List Lv → Int → Int × List Lv) (C : Int → Int → List Lv → Int → Prop) : Prop :=
  ∀ (w1 : World) (Bs Bo : Nat) (k n : Int) (m : ByteArray) (V : Value) (ls : List Lv) (d : Int), Below w0.heap.size w0 w1 → w0.heap.size ≤ Bs → Bs ≤ Bo → w1.heap[Bo]? = some (.cells #[.int .i64 k, .int .i64 n, .string m, V, .slice none 0 0] 25 (0, 0)) →
    LvP w1 (fun b => Bs ≤ b ∧ b ≠ Bo) (.mk 0 0 ls) V → (∀ l ∈ ls, nodes l ≤ 1000) → ls.length ≤ 100000 → C k n ls d →
    Calls Tryd.prog F (#[.pointer (some ⟨Bo, 0, none⟩), .int .i64 d] ++ lb) w1 fun e w2 => (∃ v, e = .returned v) ∧ ∃ V', w2.heap[Bo]? = some (.cells #[.int .i64 k, .int .i64 (f k n ls d).1, .string m, V', .slice none 0 0] 25 (0, 0)) ∧ LvP w2 (fun b => Bs ≤ b ∧ b ≠ Bo) (.mk 0 0 (f k n ls d).2) V' ∧ w1.grownBy w2 (some Bo)

theorem grown_size {w w' : World} {r : Option Nat} (h : w.grownBy w' r) : w.heap.size ≤ w'.heap.size := by
  obtain ⟨_, _, _, h, _⟩ := h
  exact h
theorem grown_of {W W' : World} (r : Option Nat) (h : Below W.heap.size W W') : W.grownBy W' r := ⟨h.os, h.tape, h.output, h.size, fun k hk _ => h.block k hk⟩
theorem setCell_arr {w : World} {b p : Nat} {arr : Array Value} {v : Value} {T : TypeId} {fr : Nat × Nat} (h : w.heap[b]? = some (.cells arr T fr)) : (w.setCell ⟨b, p, none⟩ v).heap[b]? = some (.cells (arr.setIfInBounds p v) T fr) := by
  unfold World.setCell
  simp [Array.getElem?_modify, h]
/-- Five cells from q on. -/
def set5 (arr : Array Value) (q : Nat) (x0 x1 x2 x3 x4 : Value) : Array Value := ((((arr.setIfInBounds q x0).setIfInBounds (q + 1) x1).setIfInBounds (q + 2) x2).setIfInBounds (q + 3) x3).setIfInBounds (q + 4) x4
theorem set5_size (arr : Array Value) (q : Nat) (x0 x1 x2 x3 x4 : Value) : (set5 arr q x0 x1 x2 x3 x4).size = arr.size := by simp [set5]
theorem set5_far {arr : Array Value} {q p : Nat} {x0 x1 x2 x3 x4 : Value} (h : p < q ∨ q + 4 < p) : (set5 arr q x0 x1 x2 x3 x4)[p]? = arr[p]? := by
  unfold set5
  rw [Array.getElem?_setIfInBounds_ne (by omega), Array.getElem?_setIfInBounds_ne (by omega), Array.getElem?_setIfInBounds_ne (by omega), Array.getElem?_setIfInBounds_ne (by omega), Array.getElem?_setIfInBounds_ne (by omega)]
theorem set5_at {arr : Array Value} {q : Nat} {x0 x1 x2 x3 x4 : Value} (h : q + 4 < arr.size) : (set5 arr q x0 x1 x2 x3 x4)[q]? = some x0 ∧ (set5 arr q x0 x1 x2 x3 x4)[q + 1]? = some x1 ∧ (set5 arr q x0 x1 x2 x3 x4)[q + 2]? = some x2 ∧ (set5 arr q x0 x1 x2 x3 x4)[q + 3]? = some x3 ∧ (set5 arr q x0 x1 x2 x3 x4)[q + 4]? = some x4 := by
  unfold set5
  refine ⟨?_, ?_, ?_, ?_, ?_⟩
  · rw [Array.getElem?_setIfInBounds_ne (by omega), Array.getElem?_setIfInBounds_ne (by omega), Array.getElem?_setIfInBounds_ne (by omega), Array.getElem?_setIfInBounds_ne (by omega)]
    exact Array.getElem?_setIfInBounds_self_of_lt (by omega)
  · rw [Array.getElem?_setIfInBounds_ne (by omega), Array.getElem?_setIfInBounds_ne (by omega), Array.getElem?_setIfInBounds_ne (by omega)]
    exact Array.getElem?_setIfInBounds_self_of_lt (by simp; omega)
  · rw [Array.getElem?_setIfInBounds_ne (by omega), Array.getElem?_setIfInBounds_ne (by omega)]
    exact Array.getElem?_setIfInBounds_self_of_lt (by simp; omega)
  · rw [Array.getElem?_setIfInBounds_ne (by omega)]
    exact Array.getElem?_setIfInBounds_self_of_lt (by simp; omega)
  · exact Array.getElem?_setIfInBounds_self_of_lt (by simp; omega)
theorem set5_row' {w : World} {b q : Nat} {arr : Array Value} {x0 x1 x2 x3 x4 : Value} {T : TypeId} {fr : Nat × Nat} (h : w.heap[b]? = some (.cells arr T fr)) : (((((w.setCell ⟨b, q, none⟩ x0).setCell ⟨b, q + 1, none⟩ x1).setCell ⟨b, q + 2, none⟩ x2).setCell ⟨b, q + 3, none⟩ x3).setCell ⟨b, q + 4, none⟩ x4).heap[b]? = some (.cells (set5 arr q x0 x1 x2 x3 x4) T fr) :=
  setCell_arr (setCell_arr (setCell_arr (setCell_arr (setCell_arr h))))
theorem set5_far' (w : World) (b q k : Nat) (x0 x1 x2 x3 x4 : Value) (h : k ≠ b) : (((((w.setCell ⟨b, q, none⟩ x0).setCell ⟨b, q + 1, none⟩ x1).setCell ⟨b, q + 2, none⟩ x2).setCell ⟨b, q + 3, none⟩ x3).setCell ⟨b, q + 4, none⟩ x4).heap[k]? = w.heap[k]? :=
  (setCell_far _ _ _ _ h).trans ((setCell_far _ _ _ _ h).trans ((setCell_far _ _ _ _ h).trans ((setCell_far _ _ _ _ h).trans (setCell_far _ _ _ _ h))))
theorem set5_sz (w : World) (b q : Nat) (x0 x1 x2 x3 x4 : Value) : (((((w.setCell ⟨b, q, none⟩ x0).setCell ⟨b, q + 1, none⟩ x1).setCell ⟨b, q + 2, none⟩ x2).setCell ⟨b, q + 3, none⟩ x3).setCell ⟨b, q + 4, none⟩ x4).heap.size = w.heap.size := by
  rw [setCell_size, setCell_size, setCell_size, setCell_size, setCell_size]
theorem set5_below {n₀ : Nat} {w0 w : World} (hb : Below n₀ w0 w) (b q : Nat) (x0 x1 x2 x3 x4 : Value) (h : n₀ ≤ b) : Below n₀ w0 (((((w.setCell ⟨b, q, none⟩ x0).setCell ⟨b, q + 1, none⟩ x1).setCell ⟨b, q + 2, none⟩ x2).setCell ⟨b, q + 3, none⟩ x3).setCell ⟨b, q + 4, none⟩ x4) :=
  below_set (below_set (below_set (below_set (below_set hb _ _ h) _ _ h) _ _ h) _ _ h) _ _ h
theorem set1_row {w : World} {b : Nat} {x0 x1 x2 x3 x4 y4 : Value} {T : TypeId} (h : w.heap[b]? = some (.cells #[x0, x1, x2, x3, x4] T (0, 0))) : (w.setCell ⟨b, 4, none⟩ y4).heap[b]? = some (.cells #[x0, x1, x2, x3, y4] T (0, 0)) := by
  unfold World.setCell
  simp [Array.getElem?_modify, h]
theorem cell_of_arr {w : World} {b : Nat} {arr : Array Value} {T : TypeId} (h : w.heap[b]? = some (.cells arr T (0, 0))) {p : Nat} (hp : p < arr.size) : w.cell? ⟨b, p, none⟩ = some arr[p] ∧ w.frozen? ⟨b, p, none⟩ = false :=
  ⟨by rw [cell_of_row w b p arr T (0, 0) h]; exact Array.getElem?_eq_getElem hp, frozen0 h⟩
/-- So far as j the array holds these terms, in blocks from S on. -/
def DoneTo (S : Nat) (w : World) (arr : Array Value) (us : List Tm) (j : Nat) : Prop :=
  ∀ i (h : i < us.length), i < j → ∃ l s, arr[i * 5]? = some (.int .i64 (tkOf us[i])) ∧ arr[i * 5 + 1]? = some (.int .i64 (tnOf us[i])) ∧ arr[i * 5 + 2]? = some (.string (tmOf us[i])) ∧ arr[i * 5 + 3]? = some l ∧ arr[i * 5 + 4]? = some s ∧ TmP w (fun b => S ≤ b) us[i] l s
theorem doneTo_zero (S : Nat) (w : World) (arr : Array Value) (us : List Tm) : DoneTo S w arr us 0 := fun _ _ h => absurd h (Nat.not_lt_zero _)
theorem set1_grown {W w : World} {b p : Nat} {x : Value} (h : W.grownBy w (some b)) : W.grownBy (w.setCell ⟨b, p, none⟩ x) (some b) := by
  obtain ⟨h1, h2, h3, h4, h5⟩ := h
  exact ⟨h1, h2, h3, by rw [setCell_size]; exact h4, fun k hk hne => (setCell_far w ⟨b, p, none⟩ x k (fun e => hne (by rw [e]))).trans (h5 k hk hne)⟩
theorem set5_grown {W w : World} {b q : Nat} {x0 x1 x2 x3 x4 : Value} (h : W.grownBy w (some b)) : W.grownBy (((((w.setCell ⟨b, q, none⟩ x0).setCell ⟨b, q + 1, none⟩ x1).setCell ⟨b, q + 2, none⟩ x2).setCell ⟨b, q + 3, none⟩ x3).setCell ⟨b, q + 4, none⟩ x4) (some b) :=
  set1_grown (set1_grown (set1_grown (set1_grown (set1_grown h))))
theorem grown_below {W w w' : World} {r : Option Nat} (h : W.grownBy w r) (hb : Below w.heap.size w w') : W.grownBy w' r := by
  have hs := hb.size
  obtain ⟨h1, h2, h3, h4, h5⟩ := h
  exact ⟨hb.os.trans h1, hb.tape.trans h2, hb.output.trans h3, Nat.le_trans h4 hs, fun k hk hne => (hb.block k (Nat.lt_of_lt_of_le hk h4)).trans (h5 k hk hne)⟩
/-- One more. -/
theorem doneTo_step {S b j : Nat} {wr w8 : World} {arr : Array Value} {us : List Tm} {k n : Int} {m : ByteArray} {l s : Value} (hd : DoneTo S wr arr us j) (hu : j < us.length) (hb8 : Below wr.heap.size wr w8) (hS : b < S) (hk : tkOf us[j] = k) (hn : tnOf us[j] = n) (hm : tmOf us[j] = m) (hz : j * 5 + 4 < arr.size) (ht : TmP w8 (fun q => S ≤ q) us[j] l s) :
    DoneTo S (((((w8.setCell ⟨b, j * 5, none⟩ (.int .i64 k)).setCell ⟨b, j * 5 + 1, none⟩ (.int .i64 n)).setCell ⟨b, j * 5 + 2, none⟩ (.string m)).setCell ⟨b, j * 5 + 3, none⟩ l).setCell ⟨b, j * 5 + 4, none⟩ s) (set5 arr (j * 5) (.int .i64 k) (.int .i64 n) (.string m) l s) us (j + 1) := by
  intro i h hi
  by_cases hij : i < j
  · obtain ⟨l', s', c0, c1, c2, c3, c4, ht'⟩ := hd i h hij
    refine ⟨l', s', by rw [set5_far (by omega)]; exact c0, by rw [set5_far (by omega)]; exact c1, by rw [set5_far (by omega)]; exact c2, by rw [set5_far (by omega)]; exact c3, by rw [set5_far (by omega)]; exact c4, ?_⟩
    exact tmP_move (fun q hq hp => ⟨hp, (set5_far' w8 b (j * 5) q _ _ _ _ _ (by omega)).trans (hb8.block q hq)⟩) (by rw [set5_sz]; exact hb8.size) _ _ _ ht'
  · obtain rfl : i = j := by omega
    obtain ⟨c0, c1, c2, c3, c4⟩ := set5_at (x0 := .int .i64 k) (x1 := .int .i64 n) (x2 := .string m) (x3 := l) (x4 := s) hz
    exact ⟨l, s, by rw [hk]; exact c0, by rw [hn]; exact c1, by rw [hm]; exact c2, c3, c4, tmP_move (fun q _ hp => ⟨hp, set5_far' w8 b (i * 5) q _ _ _ _ _ (by omega)⟩) (by rw [set5_sz]; exact Nat.le_refl _) _ _ _ ht⟩
/-- The whole array as a row of terms. -/
theorem doneTo_tsP {S B b : Nat} {w : World} {arr : Array Value} {us : List Tm} (hd : DoneTo S w arr us us.length) (hr : w.heap[b]? = some (.cells arr 25 (0, 0))) (hB : B ≤ b) (hS : B ≤ S) : TsP w (fun q => B ≤ q) (some ⟨b, 0, none⟩) 0 us :=
  tsP_of us 0 fun i hi => by
    obtain ⟨l, s, c0, c1, c2, c3, c4, ht⟩ := hd i hi hi
    refine ⟨b, 0, l, s, rfl, (Array.getElem?_eq_some_iff.1 hr).1, hB, ?_, ?_, ?_, ?_, ?_, tmP_weak (fun q hq => Nat.le_trans hS hq) ht⟩
    · rw [Nat.zero_add, Nat.zero_add, cell_of_row w b _ arr _ (0, 0) hr]; exact c0
    · rw [Nat.zero_add, Nat.zero_add, cell_of_row w b _ arr _ (0, 0) hr]; exact c1
    · rw [Nat.zero_add, Nat.zero_add, cell_of_row w b _ arr _ (0, 0) hr]; exact c2
    · rw [Nat.zero_add, Nat.zero_add, cell_of_row w b _ arr _ (0, 0) hr]; exact c3
    · rw [Nat.zero_add, Nat.zero_add, cell_of_row w b _ arr _ (0, 0) hr]; exact c4
end Trm

section
variable {P : Program} {l : List Oper} {Q : Exit → Act → World → Prop} {md : Region.Mode} {S : World → Prop}
/-- One of two operations comes up. -/
theorem two_in {i j : Nat} {o o' : Oper} {rest rest' : List Oper} {fuel : Nat} {listed : Array Bool} {a : Act} {w : World} (hd : l.drop i = o :: rest) (hd' : l.drop j = o' :: rest')
    (hr : Region.ready md l.toArray listed = [i, j])
    (h : ∀ K' : Act → World → Prop, Shut (∀ a w, S w → (S w → wpAnyH P md l.toArray Q S fuel (listed.setIfInBounds i true) a w) → K' a w) → if Region.wanted o (yielded l.toArray a.tmps) = true then Oper.wp P o a w K' Q else K' (a.put o.dst undef) w)
    (h' : ∀ K' : Act → World → Prop, Shut (∀ a w, S w → (S w → wpAnyH P md l.toArray Q S fuel (listed.setIfInBounds j true) a w) → K' a w) → if Region.wanted o' (yielded l.toArray a.tmps) = true then Oper.wp P o' a w K' Q else K' (a.put o'.dst undef) w) :
    wpAnyH P md l.toArray Q S (fuel + 1) listed a w :=
  wpAnyH_ready hr (by simp) (AllReadyH.cons (at_of_drop hd) h (AllReadyH.cons (at_of_drop hd') h' AllReadyH.nil))
end
end Go.Proofs.YtlijdgamobpndaaDoor
/-
  The contract of the program's function remade, with scholium/term.own$1.
  Conditions: the term lies in memory as told by 'TmV'; it has at most 100000 nodes, and its levels at most 1000 each; what scholium/term.own$1 does ('ChgC').
-/
namespace Go.Proofs.YtlijdgamobpndaaDoor
open Go.RowKit
open Lvl
namespace Trm

end Trm
end Go.Proofs.YtlijdgamobpndaaDoor
