/-
  The contracts of the reference's functions Parent, Last, Under and has: each answers what package name's own answers, and leaves the world as it was.
  Conditions: each text has at most 2^47 bytes; a list lies in memory as told by 'Txt'.
-/
import Derived.Test.YtnknaecfjkiibaaGreatDoorRefRight
import Derived.Test.YtnknaecfjkiibaaGreatDoorFresh
namespace Go.Proofs.YtnknaecfjkiibaaGreatDoor
open Go.RowKit

theorem refDot_is (s : ByteArray) (w : World) (hs : s.size ≤ 140737488355328) (I : Int) (h : dotI s = I) :
    Calls Tryz.prog 30 #[.string s] w fun e w' => e = .returned (.int .i64 I) ∧ w = w' := by
  subst h; exact refDot_any s w hs

set_option maxHeartbeats 400000 in
theorem refParent_is (s : ByteArray) (w : World) (hs : s.size ≤ 140737488355328) (p : ByteArray) (hp : parentOf s = p) :
    Calls Tryz.prog 15 #[.string s] w fun e w' => e = .returned (.string p) ∧ w = w' := by
  rcases dotI_cases s with hd | ⟨i, hi, hd⟩
  · cases hr : Nm.rightB s
    · obtain rfl := (parentOf_no hr).symm.trans hp
      have HR := Lib.hid hr
      have HD := Lib.hid hd
      clear hr hd hp
      go_enter Tryz.func15, Tryz.ntmps15
      go_wp2_with (first | (go_at_call 30; refine (refDot_is s _ hs _ HD.out).mono ?_; rintro e w' ⟨rfl, rfl⟩) | (go_at_call 10; refine (refRight_is s _ hs _ HR.out).mono ?_; rintro e w' ⟨rfl, rfl⟩))
      go_ret
      exact ⟨rfl, rfl⟩
    · obtain rfl := (parentOf_one hr hd).symm.trans hp
      have HR := Lib.hid hr
      have HD := Lib.hid hd
      clear hr hd hp
      go_enter Tryz.func15, Tryz.ntmps15
      go_wp2_with (first | (go_at_call 30; refine (refDot_is s _ hs _ HD.out).mono ?_; rintro e w' ⟨rfl, rfl⟩) | (go_at_call 10; refine (refRight_is s _ hs _ HR.out).mono ?_; rintro e w' ⟨rfl, rfl⟩))
      go_ret
      exact ⟨rfl, rfl⟩
  · cases hr : Nm.rightB s
    · obtain rfl := (parentOf_no hr).symm.trans hp
      have HR := Lib.hid hr
      have HD := Lib.hid hd
      clear hr hd hp
      go_enter Tryz.func15, Tryz.ntmps15
      go_wp2_with (first | (go_at_call 30; refine (refDot_is s _ hs _ HD.out).mono ?_; rintro e w' ⟨rfl, rfl⟩) | (go_at_call 10; refine (refRight_is s _ hs _ HR.out).mono ?_; rintro e w' ⟨rfl, rfl⟩))
      go_ret
      exact ⟨rfl, rfl⟩
    · have HP := Lib.hid ((parentOf_dot hr hd).symm.trans hp)
      have HR := Lib.hid hr
      have HD := Lib.hid hd
      clear hr hd hp
      go_enter Tryz.func15, Tryz.ntmps15
      go_wp2_with (first | (go_at_call 30; refine (refDot_is s _ hs _ HD.out).mono ?_; rintro e w' ⟨rfl, rfl⟩) | (go_at_call 10; refine (refRight_is s _ hs _ HR.out).mono ?_; rintro e w' ⟨rfl, rfl⟩))
      go_ret
      exact ⟨by rw [← HP.out]; rfl, rfl⟩

set_option maxHeartbeats 400000 in
theorem refLast_is (s : ByteArray) (w : World) (hs : s.size ≤ 140737488355328) (l : ByteArray) (hl : lastOf s = l) :
    Calls Tryz.prog 17 #[.string s] w fun e w' => e = .returned (.string l) ∧ w = w' := by
  cases hr : Nm.rightB s
  · obtain rfl := (lastOf_no hr).symm.trans hl
    have HR := Lib.hid hr
    clear hr hl
    go_enter Tryz.func17, Tryz.ntmps17
    go_wp2_with (go_at_call 10; refine (refRight_is s _ hs _ HR.out).mono ?_; rintro e w' ⟨rfl, rfl⟩)
    go_ret
    exact ⟨rfl, rfl⟩
  · rcases dotI_cases s with hd | ⟨i, hi, hd⟩
    · have HP := Lib.hid ((lastOf_one hr hd).symm.trans hl)
      have HR := Lib.hid hr
      have HD := Lib.hid hd
      clear hr hd hl
      go_enter Tryz.func17, Tryz.ntmps17
      go_wp2_with (first | (go_at_call 30; refine (refDot_is s _ hs _ HD.out).mono ?_; rintro e w' ⟨rfl, rfl⟩) | (go_at_call 10; refine (refRight_is s _ hs _ HR.out).mono ?_; rintro e w' ⟨rfl, rfl⟩))
      go_ret
      exact ⟨by rw [← HP.out]; rfl, rfl⟩
    · have HP := Lib.hid ((lastOf_dot hr hd).symm.trans hl)
      have HR := Lib.hid hr
      have HD := Lib.hid hd
      clear hr hd hl
      go_enter Tryz.func17, Tryz.ntmps17
      go_wp2_with (first | (go_at_call 30; refine (refDot_is s _ hs _ HD.out).mono ?_; rintro e w' ⟨rfl, rfl⟩) | (go_at_call 10; refine (refRight_is s _ hs _ HR.out).mono ?_; rintro e w' ⟨rfl, rfl⟩))
      go_ret
      exact ⟨by rw [← HP.out]; rfl, rfl⟩

theorem under_short {s t : ByteArray} (he : s ≠ t) (h : ¬ t.size < s.size) : underB s t = false := by
  cases hu : underB s t
  · rfl
  · obtain ⟨_, _, h1 | ⟨r, hr⟩⟩ := under_iff hu
    · exact absurd h1 he
    · have := congrArg List.length hr
      rw [List.length_append, List.length_cons, ← Lib.size_eq, ← Lib.size_eq] at this
      omega
theorem under_pre {s t : ByteArray} (h : t.size < s.size) (h1 : ((s.extract 0 t.size).toList == t.toList) = false) : underB s t = false := by
  cases hu : underB s t
  · rfl
  · obtain ⟨_, _, h2 | ⟨r, hr⟩⟩ := under_iff hu
    · subst h2; omega
    · rw [ByteArray.toList_eq, ByteArray.toList_eq, Lib.extract_from_zero, hr, beq_eq_false_iff_ne, Lib.size_eq, List.take_left] at h1
      exact absurd rfl h1
theorem under_byte {s t : ByteArray} (hr : Nm.rightB s = true) (hr' : Nm.rightB t = true) (h : t.size < s.size) (h1 : ((s.extract 0 t.size).toList == t.toList) = true) : underB s t = decide (s[t.size]'h = 46) := by
  rw [ByteArray.toList_eq, ByteArray.toList_eq, Lib.extract_from_zero, beq_iff_eq] at h1
  have e : s.data.toList = t.data.toList ++ (s[t.size]'h) :: s.data.toList.drop (t.size + 1) := by
    rw [← drop_get h, ← h1, List.take_append_drop]
  by_cases hc : s[t.size]'h = 46
  · rw [decide_eq_true hc]
    exact under_of hr hr' (.inr ⟨_, by rw [hc] at e; exact e⟩)
  · rw [decide_eq_false hc]
    cases hu : underB s t
    · rfl
    · obtain ⟨_, _, h2 | ⟨r, hr2⟩⟩ := under_iff hu
      · subst h2; omega
      · rw [e] at hr2
        have := List.append_cancel_left hr2
        injection this with h3 _
        exact absurd h3 hc

set_option maxHeartbeats 1000000 in
theorem refUnder_is (s t : ByteArray) (w : World) (hs : s.size ≤ 140737488355328) (ht : t.size ≤ 140737488355328) (b : Bool) (hu : underB s t = b) :
    Calls Tryz.prog 19 #[.string s, .string t] w fun e w' => e = .returned (.bool b) ∧ w = w' := by
  cases hr : Nm.rightB s
  · obtain rfl : false = b := (underB_no hr).symm.trans hu
    have HR := Lib.hid hr
    clear hr hu
    go_enter Tryz.func19, Tryz.ntmps19
    go_wp2_with (go_at_call 10; refine (refRight_is s _ hs _ HR.out).mono ?_; rintro e w1 ⟨rfl, rfl⟩)
    go_ret
    exact ⟨rfl, rfl⟩
  · cases hr' : Nm.rightB t
    · obtain rfl : false = b := (underB_no' hr').symm.trans hu
      have HR := Lib.hid hr
      have HR' := Lib.hid hr'
      clear hr hr' hu
      go_enter Tryz.func19, Tryz.ntmps19
      go_wp2_with fail
      refine (refRight_is s _ hs _ HR.out).mono ?_
      rintro e w1 ⟨rfl, rfl⟩
      go_wp2_with fail
      refine (refRight_is t _ ht _ HR'.out).mono ?_
      rintro e w1 ⟨rfl, rfl⟩
      go_wp2_with fail
      go_ret
      exact ⟨rfl, rfl⟩
    · have HR := Lib.hid hr
      have HR' := Lib.hid hr'
      by_cases he : s = t
      · subst he
        obtain rfl : true = b := (underB_self hr).symm.trans hu
        have heq : (s.toList == s.toList) = true := by simp
        clear hr hr' hu
        go_enter Tryz.func19, Tryz.ntmps19
        go_wp2_with fail
        refine (refRight_is s _ hs _ HR.out).mono ?_
        rintro e w1 ⟨rfl, rfl⟩
        go_wp2_with fail
        refine (refRight_is s _ ht _ HR'.out).mono ?_
        rintro e w1 ⟨rfl, rfl⟩
        go_wp2_with fail
        go_ret
        exact ⟨rfl, rfl⟩
      · have heq : (s.toList == t.toList) = false := by rw [bytes_eqb, decide_eq_false he]
        by_cases hlt : t.size < s.size
        · have hln : decide ((t.size : Int) < (s.size : Int)) = true := decide_eq_true (by omega)
          have hle : (t.size : Int) ≤ (s.size : Int) := by omega
          cases h1 : ((s.extract 0 t.size).toList == t.toList)
          · obtain rfl : false = b := (under_pre hlt h1).symm.trans hu
            clear hr hr' hu he
            go_enter Tryz.func19, Tryz.ntmps19
            go_wp2_with fail
            refine (refRight_is s _ hs _ HR.out).mono ?_
            rintro e w1 ⟨rfl, rfl⟩
            go_wp2_with fail
            refine (refRight_is t _ ht _ HR'.out).mono ?_
            rintro e w1 ⟨rfl, rfl⟩
            go_wp2_with fail
            go_ret
            exact ⟨rfl, rfl⟩
          · have HB : Hid (((((s[t.size]'hlt).toNat : Nat) : Int) == 46) = b) := by rw [byte_eq46, ← under_byte hr hr' hlt h1, hu]; rfl
            clear hr hr' hu he
            go_enter Tryz.func19, Tryz.ntmps19
            go_wp2_with fail
            refine (refRight_is s _ hs _ HR.out).mono ?_
            rintro e w1 ⟨rfl, rfl⟩
            go_wp2_with fail
            refine (refRight_is t _ ht _ HR'.out).mono ?_
            rintro e w1 ⟨rfl, rfl⟩
            go_wp2_with fail
            go_ret
            exact ⟨by rw [← HB.out]; rfl, rfl⟩
        · obtain rfl : false = b := (under_short he hlt).symm.trans hu
          have hln : decide ((t.size : Int) < (s.size : Int)) = false := decide_eq_false (by omega)
          have hln2 : decide (t.size < s.size) = false := decide_eq_false hlt
          clear hr hr' hu he
          go_enter Tryz.func19, Tryz.ntmps19
          go_wp2_with fail
          refine (refRight_is s _ hs _ HR.out).mono ?_
          rintro e w1 ⟨rfl, rfl⟩
          go_wp2_with fail
          refine (refRight_is t _ ht _ HR'.out).mono ?_
          rintro e w1 ⟨rfl, rfl⟩
          go_wp2_with fail
          go_ret
          exact ⟨rfl, rfl⟩
end Go.Proofs.YtnknaecfjkiibaaGreatDoor
