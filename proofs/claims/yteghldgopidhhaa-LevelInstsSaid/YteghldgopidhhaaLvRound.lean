/-
  One round of a loop that appends a level of one's own to a row that a box in memory holds.
  Conditions: each text's own.
-/
import Derived.Test.YteghldgopidhhaaLvOwn
namespace Go.Proofs.Yteghldgopidhhaa
open Go.RowKit
open Lvl

theorem set3_row {w : World} {b : Nat} {x y z x' y' z' : Value} {T : TypeId} (h : w.heap[b]? = some (.cells #[x, y, z] T (0, 0))) : (((w.setCell ⟨b, 0, none⟩ x').setCell ⟨b, 1, none⟩ y').setCell ⟨b, 2, none⟩ z').heap[b]? = some (.cells #[x', y', z'] T (0, 0)) := by
  unfold World.setCell
  simp [Array.getElem?_modify, h]
theorem ownL_slice {w : World} {base : Nat} {V : Value} {ts : List Lv} (h : OwnL w base V ts) : ∃ a l c, V = .slice a l c := by
  obtain ⟨ss, _, ho, _⟩ := h
  rcases ho.2 with ⟨rfl, _⟩ | ⟨g, cap, cur, rfl, _⟩
  · exact ⟨_, _, _, rfl⟩
  · exact ⟨_, _, _, rfl⟩
theorem lvP_slice {w : World} {P : Nat → Prop} {t : Lv} {s : Value} (h : LvP w P t s) : ∃ a l c, s = .slice a l c := by
  cases t with
  | mk k n ts =>
  rw [LvP] at h
  obtain ⟨A, len, cap, rfl, _⟩ := h
  exact ⟨_, _, _, rfl⟩
theorem box_round {W wr wA w2 : World} {B j g cap' : Nat} {k n ki nu : Int} {V s9 : Value} {ts : List Lv} {ss : List Value} {tj : Lv} {O : Obj}
    (hsz : B + 1 ≤ wr.heap.size) (hl : (ts.take j).length = ss.length) (hjl : (ts.take j).length = j)
    (ho : wr.ownsRow (B + 1) 24 3 V j (cells3 (ts.take j) ss))
    (hk : ∀ i (h1 : i < (ts.take j).length) (h2 : i < ss.length), LvP wr (fun b => B + 1 ≤ b ∧ V.ownBlock ≠ some b) (ts.take j)[i] ss[i])
    (hki : kindOf tj = ki) (hnu : numOf tj = nu) (htk : ts.take (j + 1) = ts.take j ++ [tj])
    (hbw : Below B W wr) (hbA : Below wr.drew.heap.size wr.drew wA) (hs : LvP wA (fun b => wr.drew.heap.size ≤ b) tj s9)
    (hown : w2.ownsRow (B + 1) 24 3 (.slice (some ⟨g, 0, none⟩) (j + 1) cap') (j + 1) (cells3 (ts.take j) ss ++ [.int .i64 ki, .int .i64 nu, s9]))
    (hg : (wA.alloc O).grownBy w2 V.ownBlock) (hat : V.ownBlock = some g ∨ g = wA.heap.size + 1)
    (hw2 : w2.heap[B]? = some (.cells #[.int .i64 k, .int .i64 n, V] 24 (0, 0))) :
    (w2.setCell ⟨B, 2, none⟩ (.slice (some ⟨g, 0, none⟩) (j + 1) cap')).heap[B]? = some (.cells #[.int .i64 k, .int .i64 n, .slice (some ⟨g, 0, none⟩) (j + 1) cap'] 24 (0, 0)) ∧
    OwnL (w2.setCell ⟨B, 2, none⟩ (.slice (some ⟨g, 0, none⟩) (j + 1) cap')) (B + 1) (.slice (some ⟨g, 0, none⟩) (j + 1) cap') (ts.take (j + 1)) ∧
    Below B W (w2.setCell ⟨B, 2, none⟩ (.slice (some ⟨g, 0, none⟩) (j + 1) cap')) := by
  have hd : wr.drew.heap.size = wr.heap.size := rfl
  have h5 : wr.drew.heap.size ≤ wA.heap.size := hbA.size
  have hA : Below B W wA := hbw.trans ((Below.refl _ _).drew.trans (hbA.mono (by omega)))
  have h2 : Below B W w2 := (hA.alloc (by omega) O).grown hg (by simp; omega) (fun k e => by have := own_block ho k e; omega)
  refine ⟨setCell_row hw2, ?_, below_set h2 _ _ (Nat.le_refl _)⟩
  have hO : OwnL w2 (B + 1) (.slice (some ⟨g, 0, none⟩) (j + 1) cap') (ts.take (j + 1)) := by
    have := ownL_step (w0 := wr.drew) (w1 := wA) (w2 := w2) (base := B + 1) (V := V) (ts := ts.take j) (ss := ss) (a := tj) (s := s9) (H := wA.heap.size + 1) (O := O) (g := g) (cap := cap') hl (by rw [hjl]; exact own_below ho (Below.refl _ _).drew) (fun i h1 h2 => lvP_move (w := wr) (w' := wr.drew) (fun b _ hp => ⟨hp, rfl⟩) (Nat.le_refl _) _ _ (hk i h1 h2)) (by omega) hbA hs (by simp) (by rw [hjl, hki, hnu]; exact hown) hg hat
    rw [hjl] at this
    rw [htk]
    exact this
  exact ownL_move hO (fun b _ hb => setCell_far _ _ _ _ (by show b ≠ B; omega)) (by rw [setCell_size]; exact Nat.le_refl _)
end Go.Proofs.Yteghldgopidhhaa
