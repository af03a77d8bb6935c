import Derived.Test.YtlijdgamobpndaaDoorRows
import Derived.WalkKit
import Derived.WalkSpells
import Derived.WalkLawsBesides
/-
  The contracts of package name's smallest functions (isDigit, isPlain and isPart's literal): each returns its test of the one rune that it is given, and leaves the world as it was.
  Conditions: none.
-/
namespace Go.Proofs.YtlijdgamobpndaaDoor
open Go.RowKit

/-- Is it one of 0 to 9? -/
def digI (r : Int) : Bool := decide (48 ≤ r) && decide (r ≤ 57)
/-- Is it one of a to z, 0 to 9 and _? -/
def plainI (r : Int) : Bool := (decide (97 ≤ r) && decide (r ≤ 122)) || digI r || decide (r = 95)

set_option maxHeartbeats 400000 in
theorem isDigit_any (r : Int) (w : World) :
    Calls Tryd.prog 69 #[.int .i32 r] w fun e w' => e = .returned (.bool (digI r)) ∧ w = w' := by
  by_cases h1 : 48 ≤ r
  · by_cases h2 : r ≤ 57
    · go_enter Tryd.func69, Tryd.ntmps69
      go_wp2
      go_ret
      exact ⟨by simp [digI, h1, h2], rfl⟩
    · go_enter Tryd.func69, Tryd.ntmps69
      go_wp2
      go_ret
      exact ⟨by simp [digI, h1, h2], rfl⟩
  · have hf : Hid (digI r = false) := by unfold digI; rw [decide_eq_false h1]; rfl
    go_enter Tryd.func69, Tryd.ntmps69
    go_wp2
    go_ret
    exact ⟨by rw [hf.out]; rfl, rfl⟩

theorem isDigit_yes (r : Int) (w : World) (h : digI r = true) :
    Calls Tryd.prog 69 #[.int .i32 r] w fun e w' => e = .returned (.bool true) ∧ w = w' := by
  have c := isDigit_any r w
  rwa [h] at c
theorem isDigit_no (r : Int) (w : World) (h : digI r = false) :
    Calls Tryd.prog 69 #[.int .i32 r] w fun e w' => e = .returned (.bool false) ∧ w = w' := by
  have c := isDigit_any r w
  rwa [h] at c

set_option maxHeartbeats 400000 in
theorem isPlain_any (r : Int) (w : World) :
    Calls Tryd.prog 68 #[.int .i32 r] w fun e w' => e = .returned (.bool (plainI r)) ∧ w = w' := by
  by_cases h1 : 97 ≤ r
  · by_cases h2 : r ≤ 122
    · go_enter Tryd.func68, Tryd.ntmps68
      go_wp2
      go_ret
      exact ⟨by simp [plainI, h1, h2], rfl⟩
    · have hd : digI r = false := by simp [digI]; omega
      have h3 : (r == 95) = false := by simp; omega
      go_enter Tryd.func68, Tryd.ntmps68
      go_wp2_with (go_at_call 69; refine (isDigit_no _ _ hd).mono ?_; rintro e w' ⟨rfl, rfl⟩)
      go_ret
      exact ⟨by simp [plainI, hd, h2]; omega, rfl⟩
  · by_cases hd : digI r = true
    · go_enter Tryd.func68, Tryd.ntmps68
      go_wp2_with (go_at_call 69; refine (isDigit_yes _ _ hd).mono ?_; rintro e w' ⟨rfl, rfl⟩)
      go_ret
      exact ⟨by simp [plainI, hd], rfl⟩
    · have hd : digI r = false := by simpa using hd
      by_cases h3 : r = 95
      · subst h3
        go_enter Tryd.func68, Tryd.ntmps68
        go_wp2_with (go_at_call 69; refine (isDigit_no _ _ hd).mono ?_; rintro e w' ⟨rfl, rfl⟩)
        go_ret
        exact ⟨by simp [plainI], rfl⟩
      · have h4 : (r == 95) = false := by simp; omega
        have hf : Hid (plainI r = false) := by unfold plainI; rw [hd, decide_eq_false h1, decide_eq_false h3]; rfl
        go_enter Tryd.func68, Tryd.ntmps68
        go_wp2_with (go_at_call 69; refine (isDigit_no _ _ hd).mono ?_; rintro e w' ⟨rfl, rfl⟩)
        go_ret
        exact ⟨by rw [hf.out]; rfl, rfl⟩

set_option maxHeartbeats 400000 in
theorem isPart1_any (r : Int) (w : World) :
    Calls Tryd.prog 67 #[.int .i32 r] w fun e w' => e = .returned (.bool (!plainI r)) ∧ w = w' := by
  go_enter Tryd.func67, Tryd.ntmps67
  go_wp2_with (go_at_call 68; refine (isPlain_any _ _).mono ?_; rintro e w' ⟨rfl, rfl⟩)
  go_ret
  exact ⟨rfl, rfl⟩
end Go.Proofs.YtlijdgamobpndaaDoor
