/-
  Plain facts about what stands under a name.
  Conditions: none.
-/
import Derived.Test.YtnknaecfjkiibaaGreatDoorCalls2
namespace Go.Proofs.YtnknaecfjkiibaaGreatDoor
open Go.RowKit

theorem under_iff {s t : ByteArray} (h : underB s t = true) : Nm.rightB s = true ∧ Nm.rightB t = true ∧ (s = t ∨ ∃ r, s.data.toList = t.data.toList ++ 46 :: r) := by
  unfold underB at h
  rw [Bool.and_eq_true, Bool.and_eq_true, Bool.or_eq_true, decide_eq_true_iff] at h
  refine ⟨h.1.1, h.1.2, h.2.imp id fun h => ?_⟩
  unfold Lib.hasPrefix at h
  obtain ⟨r, hr⟩ := List.isPrefixOf_iff_prefix.1 h
  exact ⟨r, by rw [← hr]; simp⟩
theorem under_of {s t : ByteArray} (h1 : Nm.rightB s = true) (h2 : Nm.rightB t = true) (h3 : s = t ∨ ∃ r, s.data.toList = t.data.toList ++ 46 :: r) : underB s t = true := by
  unfold underB
  rw [h1, h2, Bool.true_and, Bool.true_and, Bool.or_eq_true, decide_eq_true_iff]
  refine h3.imp id fun ⟨r, hr⟩ => ?_
  unfold Lib.hasPrefix
  rw [List.isPrefixOf_iff_prefix, hr]
  exact ⟨r, by simp⟩
theorem under_antisymm {s t : ByteArray} (h : underB s t = true) (h' : underB t s = true) : s = t := by
  obtain ⟨_, _, h1⟩ := under_iff h
  obtain ⟨_, _, h2⟩ := under_iff h'
  rcases h1 with h1 | ⟨r, hr⟩
  · exact h1
  · rcases h2 with h2 | ⟨r', hr'⟩
    · exact h2.symm
    · have e1 := congrArg List.length hr
      have e2 := congrArg List.length hr'
      simp at e1 e2
      omega
theorem under_trans {s t u : ByteArray} (h : underB s t = true) (h' : underB t u = true) : underB s u = true := by
  obtain ⟨a1, a2, h1⟩ := under_iff h
  obtain ⟨_, b2, h2⟩ := under_iff h'
  refine under_of a1 b2 ?_
  rcases h1 with rfl | ⟨r, hr⟩
  · exact h2
  · rcases h2 with rfl | ⟨r', hr'⟩
    · exact .inr ⟨r, hr⟩
    · exact .inr ⟨r' ++ 46 :: r, by rw [hr, hr']; simp⟩
theorem spl_more : ∀ (p r : List UInt8), (Nm.spl p).length ≤ (Nm.spl (p ++ 46 :: r)).length
  | [], r => by rw [List.nil_append, Nm.spl_dot]; simp [Nm.spl]
  | c :: p, r => by
    obtain ⟨q, t, e⟩ := Nm.spl_cases p
    obtain ⟨q', t', e'⟩ := Nm.spl_cases (p ++ 46 :: r)
    have ih := spl_more p r
    rw [e, e'] at ih
    by_cases hc : c = 46
    · subst hc
      rw [List.cons_append, Nm.spl_dot, Nm.spl_dot, e, e']
      simp at ih ⊢; exact ih
    · rw [List.cons_append, Nm.spl_cons hc e, Nm.spl_cons hc e']
      simp at ih ⊢; exact ih
theorem under_parts {s t : ByteArray} (h : underB s t = true) : (partsOf t).length ≤ (partsOf s).length := by
  obtain ⟨a1, a2, h1⟩ := under_iff h
  rw [partsOf_yes a1, partsOf_yes a2]
  rcases h1 with rfl | ⟨r, hr⟩
  · exact Nat.le_refl _
  · have e1 := congrArg List.length (Nm.parts_data s)
    have e2 := congrArg List.length (Nm.parts_data t)
    rw [List.length_map] at e1 e2
    rw [e1, e2, hr]
    exact spl_more _ _

end Go.Proofs.YtnknaecfjkiibaaGreatDoor
