/-
  Plain facts about the sorted texts: they rise strictly, they are just those that there were, and sorted again they stay.
  Conditions: none.
-/
import Derived.Test.YtnknaecfjkiibaaGreatDoorSort
namespace Go.Proofs.YtnknaecfjkiibaaGreatDoor
namespace Nm
abbrev leB : List UInt8 → List UInt8 → Bool := fun x y => decide (x ≤ y)

theorem leB_trans (a b c : List UInt8) (h : leB a b = true) (h' : leB b c = true) : leB a c = true := by
  rw [decide_eq_true_iff] at h h' ⊢
  exact List.le_trans h h'
theorem leB_total (a b : List UInt8) : (leB a b || leB b a) = true := by
  rw [Bool.or_eq_true, decide_eq_true_iff, decide_eq_true_iff]
  exact List.le_total a b
theorem sort_pairwise (l : List (List UInt8)) : (l.mergeSort leB).Pairwise (· ≤ ·) :=
  (List.pairwise_mergeSort leB_trans leB_total l).imp fun h => of_decide_eq_true h
theorem sort_eq {l m : List (List UInt8)} (h : m.Pairwise (· ≤ ·)) (hp : l.Perm m) : l.mergeSort leB = m :=
  List.Perm.eq_of_pairwise (le := (· ≤ ·)) (fun _ _ _ _ h1 h2 => List.le_antisymm h1 h2) (sort_pairwise l) h ((List.mergeSort_perm l leB).trans hp)

theorem lt_of_le_ne {a b : List UInt8} (h : a ≤ b) (hne : a ≠ b) : a < b := by
  rcases Classical.em (a < b) with h' | h'
  · exact h'
  · exact absurd (List.le_antisymm h (List.not_lt.1 h')) hne
theorem lt_irrefl' (a : List UInt8) : ¬ a < a := List.lt_irrefl a
theorem le_of_lt' {a b : List UInt8} (h : a < b) : a ≤ b := List.le_of_lt h

/-- What compacting leaves of a sorted list. -/
theorem compact_get {z : List (List UInt8)} {i : Nat} (h : i < z.length) : z.toArray[i]! = z[i] := by
  rw [getElem!_pos z.toArray i (by simpa using h)]; simp
theorem compact_mem (z : List (List UInt8)) (x : List UInt8) : x ∈ Lib.compact z ↔ x ∈ z := by
  unfold Lib.compact Lib.compactUpTo
  rw [List.mem_map]
  constructor
  · rintro ⟨i, hi, rfl⟩
    have hl : i < z.length := List.mem_range.1 (List.mem_filter.1 hi).1
    rw [compact_get hl]; exact List.getElem_mem hl
  · intro hx
    obtain ⟨i, hi, rfl⟩ := List.getElem_of_mem hx
    have : ∀ n i (h : i < z.length), i ≤ n → ∃ a, a ∈ (List.range z.length).filter (Lib.keeps z.toArray) ∧ z.toArray[a]! = z[i] := by
      intro n
      induction n with
      | zero =>
        intro i h hn
        obtain rfl : i = 0 := by omega
        exact ⟨0, List.mem_filter.2 ⟨List.mem_range.2 h, Lib.keeps_lt_one _ 0 (by omega)⟩, compact_get h⟩
      | succ n ih =>
        intro i h hn
        by_cases hi0 : i = 0
        · exact ih i h (by omega)
        · by_cases he : z.toArray[i]! = z.toArray[i - 1]!
          · obtain ⟨a, h1, h2⟩ := ih (i - 1) (by omega) (by omega)
            exact ⟨a, h1, by rw [h2, ← compact_get (by omega), ← he, compact_get h]⟩
          · exact ⟨i, List.mem_filter.2 ⟨List.mem_range.2 h, Lib.keeps_pos he⟩, compact_get h⟩
    exact this i i hi (Nat.le_refl _)
theorem range_pairwise (n : Nat) : (List.range n).Pairwise (· < ·) := List.pairwise_lt_range
theorem compact_pairwise {z : List (List UInt8)} (h : z.Pairwise (· ≤ ·)) : (Lib.compact z).Pairwise (· < ·) := by
  unfold Lib.compact Lib.compactUpTo
  rw [List.pairwise_map]
  refine List.Pairwise.imp_of_mem ?_ ((range_pairwise z.length).filter _)
  intro i j hi hj hij
  have h1 : i < z.length := List.mem_range.1 (List.mem_filter.1 hi).1
  have h2 : j < z.length := List.mem_range.1 (List.mem_filter.1 hj).1
  have hk := (List.mem_filter.1 hj).2
  have hne : z.toArray[j]! ≠ z.toArray[j - 1]! := by
    intro e
    rw [Lib.keeps_neg (by omega) e] at hk
    cases hk
  have hp := List.pairwise_iff_getElem.1 h
  rw [compact_get h1, compact_get h2]
  rw [compact_get h2, compact_get (by omega)] at hne
  have hlt : z[j - 1] < z[j] := lt_of_le_ne (hp (j - 1) j (by omega) h2 (by omega)) (Ne.symm hne)
  by_cases e : i = j - 1
  · subst e; exact hlt
  · exact List.lt_of_le_of_lt (hp i (j - 1) h1 (by omega) (by omega)) hlt
theorem compact_same {z : List (List UInt8)} (h : z.Pairwise (· < ·)) : Lib.compact z = z := by
  refine Lib.compact_all z fun j hj => ?_
  by_cases h0 : j = 0
  · subst h0; exact Lib.keeps_lt_one _ 0 (by omega)
  · refine Lib.keeps_pos fun e => ?_
    rw [compact_get hj, compact_get (by omega)] at e
    have := List.pairwise_iff_getElem.1 h (j - 1) j (by omega) hj (by omega)
    rw [e] at this
    exact lt_irrefl' _ this
end Nm

theorem sortedL_mem (xs : List ByteArray) (x : List UInt8) : x ∈ sortedL xs ↔ x ∈ xs.map (·.data.toList) := by
  unfold sortedL
  rw [Nm.compact_mem, List.mem_mergeSort]
theorem sortedL_lt (xs : List ByteArray) : (sortedL xs).Pairwise (· < ·) := Nm.compact_pairwise (Nm.sort_pairwise _)
theorem sortedOf_data (xs : List ByteArray) : (sortedOf xs).map (·.data.toList) = sortedL xs := by
  unfold sortedOf
  rw [List.map_map]
  exact List.map_id' _
theorem sortedOf_again (xs : List ByteArray) : sortedOf (sortedOf xs) = sortedOf xs := by
  have : sortedL (sortedOf xs) = sortedL xs := by
    have h := sortedL_lt xs
    unfold sortedL
    rw [sortedOf_data]
    show Lib.compact ((sortedL xs).mergeSort Nm.leB) = _
    rw [Nm.sort_eq (h.imp fun h => Nm.le_of_lt' h) (List.Perm.refl _), Nm.compact_same h]
    rfl
  unfold sortedOf at this ⊢
  rw [this]
theorem sortedOf_len (xs : List ByteArray) : (sortedOf xs).length ≤ xs.length := by
  unfold sortedOf sortedL
  rw [List.length_map]
  have := Lib.compact_length_le ((xs.map (·.data.toList)).mergeSort fun x y => decide (x ≤ y))
  rwa [List.length_mergeSort, List.length_map] at this
end Go.Proofs.YtnknaecfjkiibaaGreatDoor
