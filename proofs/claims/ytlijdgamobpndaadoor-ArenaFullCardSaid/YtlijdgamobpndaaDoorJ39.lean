import Derived.Test.YtlijdgamobpndaaDoorJ32
import Derived.Test.YtlijdgamobpndaaDoorJ17
import Derived.Test.YtlijdgamobpndaaDoorJ38
/-
  Plain facts of ArenaFull: what is held is right by itself, so it has its number still; an arena has never more than it may.
  Conditions: none.
-/
namespace Go.Proofs.YtlijdgamobpndaaDoor
open Go.RowKit
open Lvl
open Trm
namespace Arn
mutual
theorem lo_step : ∀ (t : Tm) (d : Int), loT t d ≤ loT t (d + 1) + 1
  | .mk kd n _ _ ts, d => by
    rw [loT, loT]
    split
    · omega
    · exact loL_step kd ts 0 d
theorem loL_step (kd : Int) : ∀ (ts : List Tm) (i : Nat) (d : Int), loTL kd ts i d ≤ loTL kd ts i (d + 1) + 1
  | [], _, _ => by rw [loTL, loTL]; omega
  | a :: ts, i, d => by
    rw [loTL, loTL]
    have e : under kd i (d + 1) = under kd i d + 1 := by unfold under; split <;> omega
    rw [e]
    have h1 := lo_step a (under kd i d)
    have h2 := loL_step kd ts (i + 1) d
    omega
end
theorem lo_mem (kd : Int) : ∀ (ts : List Tm) (i : Nat) (d : Int) (a : Tm), a ∈ ts → loT a d ≤ loTL kd ts i d + 1
  | b :: ts, i, d, a, h => by
    rw [loTL]
    rcases List.mem_cons.1 h with rfl | h
    · by_cases hb : binds kd i = true
      · have e : under kd i d = d + 1 := by unfold under; rw [if_pos hb]
        rw [e]
        have := lo_step a d
        omega
      · have e : under kd i d = d := by unfold under; rw [if_neg hb]
        rw [e]
        omega
    · have := lo_mem kd ts (i + 1) d a h
      omega
/-- What is asked of what is held: right in so many variables, and bound in few more than 2^40. -/
structure CF (u : Tm) : Prop where
  few : tnodes u ≤ 2000
  nm : nmOk u
  ok : ∃ K : Int, 0 ≤ K ∧ K + tnodes u ≤ 1125899906844624 ∧ okT Nm.rightB (rightB 4) u K = true
  lo : loT u 0 + tnodes u ≤ 1099511629776
theorem CF.okH {u : Tm} (h : CF u) : okH u := by
  obtain ⟨K, h0, h1, h2⟩ := h.ok
  have := h.few
  exact okT_H u K h2 h0 (by omega) (by omega) h.nm
theorem CF.right {u : Tm} (h : CF u) : rightT Nm.rightB 4 u 1125899906842624 = true := by
  obtain ⟨K, h0, h1, h2⟩ := h.ok
  have h3 := (okT_lo Nm.rightB (rightB 4) u K 1125899906842624 0 h2 (by decide)).2 (by have := h.lo; omega)
  rw [Int.add_zero] at h3
  have h4 := h.few
  unfold rightT
  rw [show min (1125899906842624 : Int) 1125899906842624 = 1125899906842624 by omega, h3]
  simp [h4]
theorem cf_downs : Downs CF := fun k n nm ls ts h => by
  have hH := h.okH
  rw [Arn.okH] at hH
  obtain ⟨_, _, _, _, _, h6, _, h8⟩ := hH.1
  refine ⟨h6, h8, fun a ha => ?_⟩
  obtain ⟨K, h0, h1, h2⟩ := h.ok
  have hlt := tnodes_arg (k := k) (n := n) (nm := nm) (ls := ls) ha
  have hn := h.nm
  rw [nmOk] at hn
  have hk1 : k ≠ 1 := fun e => by
    have := ((ok_node h2).2 e).1
    subst this
    cases ha
  have hlo := h.lo
  rw [loT, if_neg hk1] at hlo
  have h2' := h2
  rw [okT, Bool.and_eq_true] at h2'
  obtain ⟨j, hj, rfl⟩ := List.getElem_of_mem ha
  have hc := ok_child h2'.2 j hj
  rw [Nat.zero_add] at hc
  have hlm := lo_mem k ts 0 0 ts[j] ha
  exact ⟨by have := h.few; omega, nmOkL_mem hn.2 ha, ⟨_, by unfold under; split <;> omega, by unfold under; split <;> omega, hc⟩, by omega⟩
theorem cf_start {t : Tm} (hr : rightT Nm.rightB 4 t 1125899906842624 = true) (hn : nmOk t) (hl : looseR t ≤ 1099511627776) : CF t := by
  obtain ⟨h0, h1, h2⟩ := rightT_ok hr
  rw [show min (1125899906842624 : Int) 1125899906842624 = 1125899906842624 by omega] at h2
  unfold looseR at hl
  rw [if_pos hr] at hl
  exact ⟨h1, hn, ⟨_, h0, by omega, h2⟩, by omega⟩
/-- One hold more. -/
theorem full_step {most : Nat} {t : Tm} {ns : List Nd} (hc : CF t) (hi : Inv CF ns) (hl : ns.length ≤ most) : Inv CF (holdT most t ns).2 ∧ (holdT most t ns).2.length ≤ most ∧ ((holdT most t ns).1 = 0 → (holdT most t ns).2.length = most) ∧ (holdT most t ns).1 ≤ (holdT most t ns).2.length := by
  obtain ⟨h1, h2, h3⟩ := holdT_is cf_downs most t ns hc hi
  have h4 := h1.room
  refine ⟨h1.inv, by omega, fun e => by have := h3 e; omega, (holdT_le most t ns).1⟩
end Arn
end Go.Proofs.YtlijdgamobpndaaDoor
