/-
  Plain facts and contracts that the law's proof stands on, joined.
  Conditions: each fact's own.
-/
import Derived.Test.YteomfakbbcpckaaGreatDoorJ04
import Derived.Test.YteomfakbbcpckaaGreatDoorJ06
import Derived.IntWalk
import Derived.Test.YteomfakbbcpckaaGreatDoorJ07
namespace Go.Proofs.YteomfakbbcpckaaGreatDoor
open Go.RowKit
open Lvl
namespace Trm
mutual
def okC (C : Int → Int → List Lv → Int → Prop) : Tm → Int → Prop
 | .mk k n _ ls ts, d => (C k n ls d ∧ ∀ l ∈ ls, nodes l ≤ 1000) ∧ okCL C k ts.length ts 0 d
def okCL (C : Int → Int → List Lv → Int → Prop) (k : Int) (len : Nat) : List Tm → Nat → Int → Prop
 | [], _, _ => True
 | a :: ts, i, d => okC C a (d + (bndP k len i : Nat)) ∧ okCL C k len ts (i + 1) d
end
theorem grown_size {w w' : World} {r : Option Nat} (h : w.grownBy w' r) : w.heap.size ≤ w'.heap.size := by
 obtain ⟨_, _, _, h, _⟩ := h
 exact h
theorem grown_of {W W' : World} (r : Option Nat) (h : Below W.heap.size W W') : W.grownBy W' r := ⟨h.os, h.tape, h.output, h.size, fun k hk _ => h.block k hk⟩
theorem setCell_arr {w : World} {b p : Nat} {arr : Array Value} {v : Value} {T : TypeId} {fr : Nat × Nat} (h : w.heap[b]? = some (.cells arr T fr)) : (w.setCell ⟨b, p, none⟩ v).heap[b]? = some (.cells (arr.setIfInBounds p v) T fr) := by
 unfold World.setCell
 simp [Array.getElem?_modify, h]
def set5 (arr : Array Value) (q : Nat) (x0 x1 x2 x3 x4 : Value) : Array Value := ((((arr.setIfInBounds q x0).setIfInBounds (q + 1) x1).setIfInBounds (q + 2) x2).setIfInBounds (q + 3) x3).setIfInBounds (q + 4) x4
theorem set5_size (arr : Array Value) (q : Nat) (x0 x1 x2 x3 x4 : Value) : (set5 arr q x0 x1 x2 x3 x4).size = arr.size := by simp [set5]
theorem set5_far {arr : Array Value} {q p : Nat} {x0 x1 x2 x3 x4 : Value} (h : p < q ∨ q + 4 < p) : (set5 arr q x0 x1 x2 x3 x4)[p]? = arr[p]? := by
 unfold set5
 rw [Array.getElem?_setIfInBounds_ne (by omega), Array.getElem?_setIfInBounds_ne (by omega), Array.getElem?_setIfInBounds_ne (by omega), Array.getElem?_setIfInBounds_ne (by omega), Array.getElem?_setIfInBounds_ne (by omega)]
theorem set5_at {arr : Array Value} {q : Nat} {x0 x1 x2 x3 x4 : Value} (h : q + 4 < arr.size) : (set5 arr q x0 x1 x2 x3 x4)[q]? = some x0 ∧ (set5 arr q x0 x1 x2 x3 x4)[q + 1]? = some x1 ∧ (set5 arr q x0 x1 x2 x3 x4)[q + 2]? = some x2 ∧ (set5 arr q x0 x1 x2 x3 x4)[q + 3]? = some x3 ∧ (set5 arr q x0 x1 x2 x3 x4)[q + 4]? = some x4 := by
 unfold set5
 refine ⟨?_, ?_, ?_, ?_, ?_⟩
 ·rw [Array.getElem?_setIfInBounds_ne (by omega), Array.getElem?_setIfInBounds_ne (by omega), Array.getElem?_setIfInBounds_ne (by omega), Array.getElem?_setIfInBounds_ne (by omega)]
  exact Array.getElem?_setIfInBounds_self_of_lt (by omega)
 ·rw [Array.getElem?_setIfInBounds_ne (by omega), Array.getElem?_setIfInBounds_ne (by omega), Array.getElem?_setIfInBounds_ne (by omega)]
  exact Array.getElem?_setIfInBounds_self_of_lt (by simp; omega)
 ·rw [Array.getElem?_setIfInBounds_ne (by omega), Array.getElem?_setIfInBounds_ne (by omega)]
  exact Array.getElem?_setIfInBounds_self_of_lt (by simp; omega)
 ·rw [Array.getElem?_setIfInBounds_ne (by omega)]
  exact Array.getElem?_setIfInBounds_self_of_lt (by simp; omega)
 ·exact Array.getElem?_setIfInBounds_self_of_lt (by simp; omega)
theorem set5_row' {w : World} {b q : Nat} {arr : Array Value} {x0 x1 x2 x3 x4 : Value} {T : TypeId} {fr : Nat × Nat} (h : w.heap[b]? = some (.cells arr T fr)) : (((((w.setCell ⟨b, q, none⟩ x0).setCell ⟨b, q + 1, none⟩ x1).setCell ⟨b, q + 2, none⟩ x2).setCell ⟨b, q + 3, none⟩ x3).setCell ⟨b, q + 4, none⟩ x4).heap[b]? = some (.cells (set5 arr q x0 x1 x2 x3 x4) T fr) :=
 setCell_arr (setCell_arr (setCell_arr (setCell_arr (setCell_arr h))))
theorem set5_far' (w : World) (b q k : Nat) (x0 x1 x2 x3 x4 : Value) (h : k ≠ b) : (((((w.setCell ⟨b, q, none⟩ x0).setCell ⟨b, q + 1, none⟩ x1).setCell ⟨b, q + 2, none⟩ x2).setCell ⟨b, q + 3, none⟩ x3).setCell ⟨b, q + 4, none⟩ x4).heap[k]? = w.heap[k]? :=
 (setCell_far _ _ _ _ h).trans ((setCell_far _ _ _ _ h).trans ((setCell_far _ _ _ _ h).trans ((setCell_far _ _ _ _ h).trans (setCell_far _ _ _ _ h))))
theorem set5_sz (w : World) (b q : Nat) (x0 x1 x2 x3 x4 : Value) : (((((w.setCell ⟨b, q, none⟩ x0).setCell ⟨b, q + 1, none⟩ x1).setCell ⟨b, q + 2, none⟩ x2).setCell ⟨b, q + 3, none⟩ x3).setCell ⟨b, q + 4, none⟩ x4).heap.size = w.heap.size := by
 rw [setCell_size, setCell_size, setCell_size, setCell_size, setCell_size]
theorem set5_below {n₀ : Nat} {w0 w : World} (hb : Below n₀ w0 w) (b q : Nat) (x0 x1 x2 x3 x4 : Value) (h : n₀ ≤ b) : Below n₀ w0 (((((w.setCell ⟨b, q, none⟩ x0).setCell ⟨b, q + 1, none⟩ x1).setCell ⟨b, q + 2, none⟩ x2).setCell ⟨b, q + 3, none⟩ x3).setCell ⟨b, q + 4, none⟩ x4) :=
 below_set (below_set (below_set (below_set (below_set hb _ _ h) _ _ h) _ _ h) _ _ h) _ _ h
theorem cell_of_arr {w : World} {b : Nat} {arr : Array Value} {T : TypeId} (h : w.heap[b]? = some (.cells arr T (0, 0))) {p : Nat} (hp : p < arr.size) : w.cell? ⟨b, p, none⟩ = some arr[p] ∧ w.frozen? ⟨b, p, none⟩ = false :=
 ⟨by rw [cell_of_row w b p arr T (0, 0) h]; exact Array.getElem?_eq_getElem hp, frozen0 h⟩
def DoneTo (S : Nat) (w : World) (arr : Array Value) (us : List Tm) (j : Nat) : Prop :=
 ∀ i (h : i < us.length), i < j → ∃ l s, arr[i * 5]? = some (.int .i64 (tkOf us[i])) ∧ arr[i * 5 + 1]? = some (.int .i64 (tnOf us[i])) ∧ arr[i * 5 + 2]? = some (.string (tmOf us[i])) ∧ arr[i * 5 + 3]? = some l ∧ arr[i * 5 + 4]? = some s ∧ TmP w (fun b => S ≤ b) us[i] l s
theorem set1_grown {W w : World} {b p : Nat} {x : Value} (h : W.grownBy w (some b)) : W.grownBy (w.setCell ⟨b, p, none⟩ x) (some b) := by
 obtain ⟨h1, h2, h3, h4, h5⟩ := h
 exact ⟨h1, h2, h3, by rw [setCell_size]; exact h4, fun k hk hne => (setCell_far w ⟨b, p, none⟩ x k (fun e => hne (by rw [e]))).trans (h5 k hk hne)⟩
theorem grown_below {W w w' : World} {r : Option Nat} (h : W.grownBy w r) (hb : Below w.heap.size w w') : W.grownBy w' r := by
 have hs := hb.size
 obtain ⟨h1, h2, h3, h4, h5⟩ := h
 exact ⟨hb.os.trans h1, hb.tape.trans h2, hb.output.trans h3, Nat.le_trans h4 hs, fun k hk hne => (hb.block k (Nat.lt_of_lt_of_le hk h4)).trans (h5 k hk hne)⟩
theorem doneTo_tsP {S B b : Nat} {w : World} {arr : Array Value} {us : List Tm} (hd : DoneTo S w arr us us.length) (hr : w.heap[b]? = some (.cells arr 25 (0, 0))) (hB : B ≤ b) (hS : B ≤ S) : TsP w (fun q => B ≤ q) (some ⟨b, 0, none⟩) 0 us :=
 tsP_of us 0 fun i hi => by
  obtain ⟨l, s, c0, c1, c2, c3, c4, ht⟩ := hd i hi hi
  refine ⟨b, 0, l, s, rfl, (Array.getElem?_eq_some_iff.1 hr).1, hB, ?_, ?_, ?_, ?_, ?_, tmP_weak (fun q hq => Nat.le_trans hS hq) ht⟩
  ·rw [Nat.zero_add, Nat.zero_add, cell_of_row w b _ arr _ (0, 0) hr]; exact c0
  ·rw [Nat.zero_add, Nat.zero_add, cell_of_row w b _ arr _ (0, 0) hr]; exact c1
  ·rw [Nat.zero_add, Nat.zero_add, cell_of_row w b _ arr _ (0, 0) hr]; exact c2
  ·rw [Nat.zero_add, Nat.zero_add, cell_of_row w b _ arr _ (0, 0) hr]; exact c3
  ·rw [Nat.zero_add, Nat.zero_add, cell_of_row w b _ arr _ (0, 0) hr]; exact c4
end Trm
section
variable {P : Program} {l : List Oper} {Q : Exit → Act → World → Prop} {md : Region.Mode} {S : World → Prop}
theorem two_in {i j : Nat} {o o' : Oper} {rest rest' : List Oper} {fuel : Nat} {listed : Array Bool} {a : Act} {w : World} (hd : l.drop i = o :: rest) (hd' : l.drop j = o' :: rest')
  (hr : Region.ready md l.toArray listed = [i, j])
  (h : ∀ K' : Act → World → Prop, Shut (∀ a w, S w → (S w → wpAnyH P md l.toArray Q S fuel (listed.setIfInBounds i true) a w) → K' a w) → if Region.wanted o (yielded l.toArray a.tmps) = true then Oper.wp P o a w K' Q else K' (a.put o.dst undef) w)
  (h' : ∀ K' : Act → World → Prop, Shut (∀ a w, S w → (S w → wpAnyH P md l.toArray Q S fuel (listed.setIfInBounds j true) a w) → K' a w) → if Region.wanted o' (yielded l.toArray a.tmps) = true then Oper.wp P o' a w K' Q else K' (a.put o'.dst undef) w) :
  wpAnyH P md l.toArray Q S (fuel + 1) listed a w :=
 wpAnyH_ready hr (by simp) (AllReadyH.cons (at_of_drop hd) h (AllReadyH.cons (at_of_drop hd') h' AllReadyH.nil))
end
end Go.Proofs.YteomfakbbcpckaaGreatDoor
namespace Go.Proofs.YteomfakbbcpckaaGreatDoor
open Go.RowKit
open Lvl
namespace Trm
end Trm
end Go.Proofs.YteomfakbbcpckaaGreatDoor
namespace Go.Proofs.YteomfakbbcpckaaGreatDoor
open Go.RowKit
open Lvl
namespace Trm
end Trm
end Go.Proofs.YteomfakbbcpckaaGreatDoor
