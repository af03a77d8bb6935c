/-
  Plain facts and contracts that the law's proof stands on, joined.
  Conditions: each fact's own.
-/
import Derived.Test.YteomfakbbcpckaaGreatDoorRows
import Derived.WalkKit
import Derived.WalkSpells
import Derived.WalkLawsBesides
namespace Go.Proofs.YteomfakbbcpckaaGreatDoor
open Go.RowKit
def digI (r : Int) : Bool := decide (48 ≤ r) && decide (r ≤ 57)
def plainI (r : Int) : Bool := (decide (97 ≤ r) && decide (r ≤ 122)) || digI r || decide (r = 95)
set_option maxHeartbeats 400000 in
theorem isDigit_any (r : Int) (w : World) :
  Calls Tryz.prog 174 #[.int .i32 r] w fun e w' => e = .returned (.bool (digI r)) ∧ w = w' := by
 by_cases h1 : 48 ≤ r
 ·by_cases h2 : r ≤ 57
  ·go_enter Tryz.func174, Tryz.ntmps174
   go_wp2
   go_ret
   exact ⟨by simp [digI, h1, h2], rfl⟩
  ·go_enter Tryz.func174, Tryz.ntmps174
   go_wp2
   go_ret
   exact ⟨by simp [digI, h1, h2], rfl⟩
 ·have hf : Hid (digI r = false) := by unfold digI; rw [decide_eq_false h1]; rfl
  go_enter Tryz.func174, Tryz.ntmps174
  go_wp2
  go_ret
  exact ⟨by rw [hf.out]; rfl, rfl⟩
theorem isDigit_yes (r : Int) (w : World) (h : digI r = true) :
  Calls Tryz.prog 174 #[.int .i32 r] w fun e w' => e = .returned (.bool true) ∧ w = w' := by
 have c := isDigit_any r w
 rwa [h] at c
theorem isDigit_no (r : Int) (w : World) (h : digI r = false) :
  Calls Tryz.prog 174 #[.int .i32 r] w fun e w' => e = .returned (.bool false) ∧ w = w' := by
 have c := isDigit_any r w
 rwa [h] at c
set_option maxHeartbeats 400000 in
theorem isPlain_any (r : Int) (w : World) :
  Calls Tryz.prog 173 #[.int .i32 r] w fun e w' => e = .returned (.bool (plainI r)) ∧ w = w' := by
 by_cases h1 : 97 ≤ r
 ·by_cases h2 : r ≤ 122
  ·go_enter Tryz.func173, Tryz.ntmps173
   go_wp2
   go_ret
   exact ⟨by simp [plainI, h1, h2], rfl⟩
  ·have hd : digI r = false := by simp [digI]; omega
   have h3 : (r == 95) = false := by simp; omega
   go_enter Tryz.func173, Tryz.ntmps173
   go_wp2_with (go_at_call 174; refine (isDigit_no _ _ hd).mono ?_; rintro e w' ⟨rfl, rfl⟩)
   go_ret
   exact ⟨by simp [plainI, hd, h2]; omega, rfl⟩
 ·by_cases hd : digI r = true
  ·go_enter Tryz.func173, Tryz.ntmps173
   go_wp2_with (go_at_call 174; refine (isDigit_yes _ _ hd).mono ?_; rintro e w' ⟨rfl, rfl⟩)
   go_ret
   exact ⟨by simp [plainI, hd], rfl⟩
  ·have hd : digI r = false := by simpa using hd
   by_cases h3 : r = 95
   ·subst h3
    go_enter Tryz.func173, Tryz.ntmps173
    go_wp2_with (go_at_call 174; refine (isDigit_no _ _ hd).mono ?_; rintro e w' ⟨rfl, rfl⟩)
    go_ret
    exact ⟨by simp [plainI], rfl⟩
   ·have h4 : (r == 95) = false := by simp; omega
    have hf : Hid (plainI r = false) := by unfold plainI; rw [hd, decide_eq_false h1, decide_eq_false h3]; rfl
    go_enter Tryz.func173, Tryz.ntmps173
    go_wp2_with (go_at_call 174; refine (isDigit_no _ _ hd).mono ?_; rintro e w' ⟨rfl, rfl⟩)
    go_ret
    exact ⟨by rw [hf.out]; rfl, rfl⟩
set_option maxHeartbeats 400000 in
theorem isPart1_any (r : Int) (w : World) :
  Calls Tryz.prog 172 #[.int .i32 r] w fun e w' => e = .returned (.bool (!plainI r)) ∧ w = w' := by
 go_enter Tryz.func172, Tryz.ntmps172
 go_wp2_with (go_at_call 173; refine (isPlain_any _ _).mono ?_; rintro e w' ⟨rfl, rfl⟩)
 go_ret
 exact ⟨rfl, rfl⟩
end Go.Proofs.YteomfakbbcpckaaGreatDoor
