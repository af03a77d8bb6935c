/-
  The levels that the laws' own check 'alive' makes, and what is told of them.
  Conditions: none.
-/
import Derived.Test.YteghldgopidhhaaLvCmp
import Derived.Test.YteghldgopidhhaaLvInst2
namespace Go.Proofs.Yteghldgopidhhaa
open Go.RowKit
open Lvl

def lvU : Lv := .mk 2 0 []
def lvV : Lv := .mk 2 1 []
def lvI : Lv := .mk 5 0 [.mk 3 0 [lvU], lvV]
def lvM : Lv := .mk 4 0 [.mk 3 0 [lvU], lvV]
def lvX : Lv := .mk 4 0 [.mk 3 0 [.mk 1 3 []], .mk 1 0 []]
theorem isU : IsL 4 lvU (.par 0) := .par 0 (by decide)
theorem isV : IsL 4 lvV (.par 1) := .par 1 (by decide)
theorem isI : IsL 4 lvI (.imax (.succ (.par 0)) (.par 1)) := .imax (.succ isU) isV
theorem isM : IsL 4 lvM (.max (.succ (.par 0)) (.par 1)) := .max (.succ isU) isV
theorem right_of {t : Lv} {x : L} (h : IsL 4 t x) (hs : size x ≤ 64) : rightB 4 t = true := by
  unfold rightB
  rw [okB_of h, isL_nodes h]
  simp [hs]
theorem leq_of {t u : Lv} {x y : L} (hx : IsL 4 t x) (hy : IsL 4 u y) (sx : size x ≤ 64) (sy : size y ≤ 64) (b : Bool) (hb : b = true ↔ Lvl.Leq x y) : LeqIs t u b := .inl ⟨right_of hx sx, right_of hy sy, x, y, hx, hy, hb⟩
theorem al_im : LeqIs lvI lvM true := leq_of isI isM (by decide) (by decide) true ⟨fun _ f => by
  show (if f 1 = 0 then 0 else max (f 0 + 1) (f 1)) ≤ max (f 0 + 1) (f 1)
  by_cases h : f 1 = 0
  · rw [if_pos h]; exact Nat.zero_le _
  · rw [if_neg h]; exact Nat.le_refl _, fun _ => rfl⟩
theorem al_mi : LeqIs lvM lvI false := leq_of isM isI (by decide) (by decide) false ⟨(fun h => by cases h), fun h => by
    have := h fun _ => 0
    simp [val] at this⟩
theorem isMUV : IsL 4 (.mk 4 0 [lvU, lvV]) (.max (.par 0) (.par 1)) := .max isU isV
theorem isMVU : IsL 4 (.mk 4 0 [lvV, lvU]) (.max (.par 1) (.par 0)) := .max isV isU
theorem al_uv : LeqIs (.mk 4 0 [lvU, lvV]) (.mk 4 0 [lvV, lvU]) true := leq_of isMUV isMVU (by decide) (by decide) true ⟨fun _ f => by
  simp only [val]; omega, fun _ => rfl⟩
theorem al_vu : LeqIs (.mk 4 0 [lvV, lvU]) (.mk 4 0 [lvU, lvV]) true := leq_of isMVU isMUV (by decide) (by decide) true ⟨fun _ f => by
  simp only [val]; omega, fun _ => rfl⟩
theorem is0 : IsL 4 (numLv 0) (.num 0) := .num 0 (by decide)
theorem is1 : IsL 4 (numLv 1) (.num 1) := .num 1 (by decide)
theorem al_z : LeqIs (.mk 5 0 [lvU, .mk 1 0 []]) (numLv 0) true := leq_of (x := .imax (.par 0) (.num 0)) (.imax isU is0) is0 (by decide) (by decide) true ⟨fun _ f => by
  simp [val], fun _ => rfl⟩
theorem al_n : LeqIs (numLv 1) (.mk 3 0 [lvU]) true := leq_of is1 (.succ isU) (by decide) (by decide) true ⟨fun _ f => by
  simp only [val]; omega, fun _ => rfl⟩
theorem isX : IsL 4 lvX (.max (.succ (.num 3)) (.num 0)) := .max (.succ (.num 3 (by decide))) (.num 0 (by decide))
theorem al_x : ValIs lvX [] 4 := .inr ⟨right_of isX (by decide), _, isX, rfl⟩
theorem al_i : ValIs lvI [5, 0] 0 := .inr ⟨right_of isI (by decide), _, isI, rfl⟩
theorem al_r2 : rightB 2 lvM = true := by simp [rightB, okB, okL, nodes, nodesL, lvM, lvU, lvV]
theorem al_r1 : rightB 1 lvM = false := by simp [rightB, okB, okL, nodes, nodesL, lvM, lvU, lvV]
theorem al_inst : instF [.mk 1 3 [], .mk 1 0 []] lvM = lvX := by
  simp [instF, instL, lvM, lvU, lvV, lvX]
theorem al_instB : instB [.mk 1 3 [], .mk 1 0 []] lvM = true := by
  unfold instB
  rw [al_inst]
  simp [rightB, okB, okL, nodes, nodesL, lvM, lvU, lvV, lvX]
theorem al_instR : instR [.mk 1 3 [], .mk 1 0 []] lvM = lvX := by
  unfold instR
  rw [al_instB, al_inst]
  rfl
theorem al_nodes : nodes lvM = 4 := by simp [nodes, nodesL, lvM, lvU, lvV]
end Go.Proofs.Yteghldgopidhhaa
