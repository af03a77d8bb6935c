/-
  Slices of ints in memory: what lies there as a list of numbers.
  Conditions: each text's own.
-/
import Derived.Test.YteghldgopidhhaaMem
namespace Go.Proofs.Yteghldgopidhhaa
open Go.RowKit

/-- The slice at address A holds these numbers. -/
def Nts (w : World) (A : Option Addr) (zs : List Int) : Prop :=
  zs ≠ [] → ∃ b o, A = some ⟨b, o, none⟩ ∧ b < w.heap.size ∧ ∀ j z, zs[j]? = some z → w.cell? ⟨b, o + j, none⟩ = some (.int .i64 z)
theorem Nts.below {w w' : World} {A : Option Addr} {zs : List Int} (h : Nts w A zs) (hb : Below w.heap.size w w') : Nts w' A zs := fun hne => by
  obtain ⟨b, o, rfl, hlt, hc⟩ := h hne
  exact ⟨b, o, rfl, Nat.lt_of_lt_of_le hlt hb.size, fun j x hx => (hb.cell (p := ⟨b, o + j, none⟩) hlt).trans (hc j x hx)⟩
theorem Nts.at_ {w : World} {A : Option Addr} {zs : List Int} (h : Nts w A zs) {k : Nat} (hk : k < zs.length) :
    ∃ b o, A = some ⟨b, o, none⟩ ∧ b < w.heap.size ∧ w.cell? ⟨b, o + k, none⟩ = some (.int .i64 zs[k]) := by
  obtain ⟨b, o, rfl, hlt, hc⟩ := h (by intro e; subst e; exact absurd hk (Nat.not_lt_zero _))
  exact ⟨b, o, rfl, hlt, hc k _ (List.getElem?_eq_getElem hk)⟩
theorem nts_nil (w : World) (A : Option Addr) : Nts w A [] := fun h => absurd rfl h
theorem nts_new (w : World) (zs : List Int) : Nts (w.alloc (.cells (zs.map (Value.int .i64)).toArray 3)) (some ⟨w.heap.size, 0, none⟩) zs := fun _ =>
  ⟨w.heap.size, 0, rfl, by simp, fun j x hx => by
    obtain ⟨hj, rfl⟩ := List.getElem?_eq_some_iff.1 hx
    rw [Nat.zero_add, cell_of_row _ w.heap.size j (zs.map (Value.int .i64)).toArray 3 (0, 0) (heap_alloc_new w _)]
    simp [hj]⟩
theorem nts_lit (w : World) (zs : List Int) (O : Array Value) (hO : (zs.map (Value.int .i64)).toArray = O) : Nts (w.alloc (.cells O 3)) (some ⟨w.heap.size, 0, none⟩) zs := by
  subst hO; exact nts_new w zs
/-- A slice of numbers in memory, as a value. -/
def NSl (w : World) (S : Value) (zs : List Int) : Prop := ∃ A n c, S = .slice A n c ∧ zs.length = n ∧ n ≤ c ∧ (A = none → c = 0) ∧ Nts w A zs
theorem NSl.below {w w' : World} {S : Value} {zs : List Int} (h : NSl w S zs) (hb : Below w.heap.size w w') : NSl w' S zs := by
  obtain ⟨A, n, c, e, h1, h2, h3, h4⟩ := h
  exact ⟨A, n, c, e, h1, h2, h3, h4.below hb⟩
theorem nsl_lit (w : World) (zs : List Int) (n : Nat) (hn : zs.length = n) (O : Array Value) (hO : (zs.map (Value.int .i64)).toArray = O) : NSl (w.alloc (.cells O 3)) (.slice (some ⟨w.heap.size, 0, none⟩) n n) zs :=
  ⟨_, n, n, rfl, hn, Nat.le_refl _, (fun e => by cases e), nts_lit w zs O hO⟩
end Go.Proofs.Yteghldgopidhhaa
