/-
  Plain facts and contracts that the law's proof stands on, joined.
  Conditions: each fact's own.
-/
import Derived.Test.YteomfakbbcpckaaGreatDoorJ15
import Derived.Test.YteomfakbbcpckaaGreatDoorJ16
import Derived.Shelf.GgClosure.StringsIndexFunc
import Derived.Laws.RangeAny
namespace Go.Proofs.YteomfakbbcpckaaGreatDoor
open Go.RowKit
def oddR (r : Nat) : Bool := !plainI (r : Int)
theorem plainI_pl (c : UInt8) : plainI ((c.toNat : Nat) : Int) = Nm.pl c := by
 have e1 : decide ((97 : Int) ≤ (c.toNat : Int)) = decide (97 ≤ c.toNat) := decide_eq_decide.2 (by omega)
 have e2 : decide ((c.toNat : Int) ≤ 122) = decide (c.toNat ≤ 122) := decide_eq_decide.2 (by omega)
 have e3 : decide ((48 : Int) ≤ (c.toNat : Int)) = decide (48 ≤ c.toNat) := decide_eq_decide.2 (by omega)
 have e4 : decide ((c.toNat : Int) ≤ 57) = decide (c.toNat ≤ 57) := decide_eq_decide.2 (by omega)
 have e5 : decide ((c.toNat : Int) = 95) = decide (c.toNat = 95) := decide_eq_decide.2 (by omega)
 unfold plainI digI Nm.pl
 rw [e1, e2, e3, e4, e5]
theorem digI_dg (c : UInt8) : digI ((c.toNat : Nat) : Int) = Nm.dg c := by
 have e3 : decide ((48 : Int) ≤ (c.toNat : Int)) = decide (48 ≤ c.toNat) := decide_eq_decide.2 (by omega)
 have e4 : decide ((c.toNat : Int) ≤ 57) = decide (c.toNat ≤ 57) := decide_eq_decide.2 (by omega)
 unfold digI Nm.dg
 rw [e3, e4]
theorem odd_high {r : Nat} (h : 128 ≤ r) : oddR r = true := by
 unfold oddR plainI digI
 rw [decide_eq_false (p := (r : Int) ≤ 122) (by omega), decide_eq_false (p := (r : Int) ≤ 57) (by omega), decide_eq_false (p := (r : Int) = 95) (by omega)]
 simp
theorem pl_high {c : UInt8} (h : 128 ≤ c.toNat) : Nm.pl c = false := by
 rw [← plainI_pl]
 have := odd_high h
 unfold oddR at this
 simpa using this
theorem idxFrom_neg (s : ByteArray) : ∀ (f pos : Nat), s.size - pos ≤ f →
  (Lib.idxFuncFrom oddR true s f pos < 0 ↔ ∀ j (h : j < s.size), pos ≤ j → Nm.pl s[j] = true)
 | 0, pos, h => ⟨fun _ j hj hp => by omega, fun _ => by unfold Lib.idxFuncFrom; omega⟩
 | f + 1, pos, h => by
  unfold Lib.idxFuncFrom
  by_cases hp : pos < s.size
  ·rw [if_pos hp]
   by_cases ha : (s[pos]'hp).toNat < 128
   ·rw [decode_ascii s pos hp ha]
    have ih := idxFrom_neg s f (pos + 1) (by omega)
    have e : oddR (s[pos]'hp).toNat = !Nm.pl (s[pos]'hp) := by unfold oddR; rw [plainI_pl]
    rw [e]
    cases hq : Nm.pl (s[pos]'hp)
    ·simp only [Bool.not_false, if_true]
     exact ⟨fun h' => by omega, fun h' => by rw [h' pos hp (Nat.le_refl _)] at hq; cases hq⟩
    ·simp only [Bool.not_true, Bool.false_eq_true, if_false]
     rw [ih]
     refine ⟨fun h' j hj hle => ?_, fun h' j hj hle => h' j hj (by omega)⟩
     by_cases e' : j = pos
     ·subst e'; exact hq
     ·exact h' j hj (by omega)
   ·have hd := decode_high s pos hp (by omega)
    rw [odd_high hd.1, if_pos rfl]
    exact ⟨fun h' => by omega, fun h' => by have := h' pos hp (Nat.le_refl _); rw [pl_high (by omega)] at this; cases this⟩
  ·rw [if_neg hp]
   exact ⟨fun _ j hj hle => by omega, fun _ => by omega⟩
theorem idx_neg (s : ByteArray) : decide (Lib.idxFunc oddR true s < 0) = s.data.toList.all Nm.pl := by
 have h := idxFrom_neg s s.size 0 (by omega)
 rw [Bool.eq_iff_iff, decide_eq_true_iff, List.all_eq_true]
 unfold Lib.idxFunc
 rw [h]
 constructor
 ·intro h' c hc
  obtain ⟨j, hj, rfl⟩ := List.getElem_of_mem hc
  exact h' j (by rw [Lib.size_eq]; exact hj) (Nat.zero_le _)
 ·intro h' j hj _
  exact h' _ (List.getElem_mem (l := s.data.toList) (by rw [← Lib.size_eq]; exact hj))
end Go.Proofs.YteomfakbbcpckaaGreatDoor
