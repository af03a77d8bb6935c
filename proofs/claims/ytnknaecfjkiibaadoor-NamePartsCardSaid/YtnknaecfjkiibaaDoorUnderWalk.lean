/-
  The law NameUnder, walked: whatever three texts come in, it returns true, and nothing that was there turns.
  Conditions: as in the contracts of Right ('Gl'); each text has at most 2^47 bytes.
-/
import Derived.Test.YtnknaecfjkiibaaDoorAliveWalk
namespace Go.Proofs.YtnknaecfjkiibaaDoor
open Go.RowKit

theorem under_iff {s t : ByteArray} (h : underB s t = true) : Nm.rightB s = true ∧ Nm.rightB t = true ∧ (s = t ∨ ∃ r, s.data.toList = t.data.toList ++ 46 :: r) := by
  unfold underB at h
  rw [Bool.and_eq_true, Bool.and_eq_true, Bool.or_eq_true, decide_eq_true_iff] at h
  refine ⟨h.1.1, h.1.2, h.2.imp id fun h => ?_⟩
  unfold Lib.hasPrefix at h
  obtain ⟨r, hr⟩ := List.isPrefixOf_iff_prefix.1 h
  exact ⟨r, by rw [← hr]; simp⟩
theorem under_of {s t : ByteArray} (h1 : Nm.rightB s = true) (h2 : Nm.rightB t = true) (h3 : s = t ∨ ∃ r, s.data.toList = t.data.toList ++ 46 :: r) : underB s t = true := by
  unfold underB
  rw [h1, h2, Bool.true_and, Bool.true_and, Bool.or_eq_true, decide_eq_true_iff]
  refine h3.imp id fun ⟨r, hr⟩ => ?_
  unfold Lib.hasPrefix
  rw [List.isPrefixOf_iff_prefix, hr]
  exact ⟨r, by simp⟩
theorem under_antisymm {s t : ByteArray} (h : underB s t = true) (h' : underB t s = true) : s = t := by
  obtain ⟨_, _, h1⟩ := under_iff h
  obtain ⟨_, _, h2⟩ := under_iff h'
  rcases h1 with h1 | ⟨r, hr⟩
  · exact h1
  · rcases h2 with h2 | ⟨r', hr'⟩
    · exact h2.symm
    · have e1 := congrArg List.length hr
      have e2 := congrArg List.length hr'
      simp at e1 e2
      omega
theorem under_trans {s t u : ByteArray} (h : underB s t = true) (h' : underB t u = true) : underB s u = true := by
  obtain ⟨a1, a2, h1⟩ := under_iff h
  obtain ⟨_, b2, h2⟩ := under_iff h'
  refine under_of a1 b2 ?_
  rcases h1 with rfl | ⟨r, hr⟩
  · exact h2
  · rcases h2 with rfl | ⟨r', hr'⟩
    · exact .inr ⟨r, hr⟩
    · exact .inr ⟨r' ++ 46 :: r, by rw [hr, hr']; simp⟩
theorem spl_more : ∀ (p r : List UInt8), (Nm.spl p).length ≤ (Nm.spl (p ++ 46 :: r)).length
  | [], r => by rw [List.nil_append, Nm.spl_dot]; simp [Nm.spl]
  | c :: p, r => by
    obtain ⟨q, t, e⟩ := Nm.spl_cases p
    obtain ⟨q', t', e'⟩ := Nm.spl_cases (p ++ 46 :: r)
    have ih := spl_more p r
    rw [e, e'] at ih
    by_cases hc : c = 46
    · subst hc
      rw [List.cons_append, Nm.spl_dot, Nm.spl_dot, e, e']
      simp at ih ⊢; exact ih
    · rw [List.cons_append, Nm.spl_cons hc e, Nm.spl_cons hc e']
      simp at ih ⊢; exact ih
theorem under_parts {s t : ByteArray} (h : underB s t = true) : (partsOf t).length ≤ (partsOf s).length := by
  obtain ⟨a1, a2, h1⟩ := under_iff h
  rw [partsOf_yes a1, partsOf_yes a2]
  rcases h1 with rfl | ⟨r, hr⟩
  · exact Nat.le_refl _
  · have e1 := congrArg List.length (Nm.parts_data s)
    have e2 := congrArg List.length (Nm.parts_data t)
    rw [List.length_map] at e1 e2
    rw [e1, e2, hr]
    exact spl_more _ _

set_option maxHeartbeats 1000000 in
set_option maxRecDepth 100000 in
theorem nameUnder_long (a b c : ByteArray) (w : World) (g : Gl w) (h : ¬ (a.size ≤ 400 ∧ b.size ≤ 400 ∧ c.size ≤ 400)) :
    Calls Tryd.prog 5 #[.string a, .string b, .string c] w (Ret w (.bool true)) := by
  have G := Lib.hid g
  clear g
  by_cases h1 : a.size ≤ 400
  · by_cases h2 : b.size ≤ 400
    · have h3 : ¬ c.size ≤ 400 := fun h3 => h ⟨h1, h2, h3⟩
      clear h
      go_enter Tryd.func5, Tryd.ntmps5
      go_wp2_with (go_at_call 7; refine (alive_any _ G.out).mono ?_; rintro e w1 ⟨rfl, hb1⟩)
      go_ret
      exact ⟨rfl, by assumption⟩
    · clear h
      go_enter Tryd.func5, Tryd.ntmps5
      go_wp2_with (go_at_call 7; refine (alive_any _ G.out).mono ?_; rintro e w1 ⟨rfl, hb1⟩)
      go_ret
      exact ⟨rfl, by assumption⟩
  · clear h
    go_enter Tryd.func5, Tryd.ntmps5
    go_wp2_with (go_at_call 7; refine (alive_any _ G.out).mono ?_; rintro e w1 ⟨rfl, hb1⟩)
    go_ret
    exact ⟨rfl, by assumption⟩

set_option maxHeartbeats 1000000 in
set_option maxRecDepth 100000 in
theorem nameUnder_no (a b c : ByteArray) (w : World) (g : Gl w) (h1 : a.size ≤ 400) (h2 : b.size ≤ 400) (h3 : c.size ≤ 400) (hu : underB a b = false) :
    Calls Tryd.prog 5 #[.string a, .string b, .string c] w (Ret w (.bool true)) := by
  have G := Lib.hid g
  have HU := Lib.hid hu
  clear g hu
  go_enter Tryd.func5, Tryd.ntmps5
  go_wp2_with fail
  refine (alive_any _ G.out).mono ?_
  rintro e w1 ⟨rfl, hb1⟩
  have G1 := Lib.hid (G.out.below hb1)
  have B1 := Lib.hid hb1
  clear hb1
  go_wp2_with fail
  refine (under_is a b _ G1.out (by omega) (by omega) _ HU.out).mono ?_
  rintro e w2 ⟨rfl, hb2⟩
  have G2 := Lib.hid (G1.out.below hb2)
  have B2 := Lib.hid (B1.out.trans (hb2.mono B1.out.size))
  clear hb2
  go_wp2_with fail
  refine (under_is a b _ G2.out (by omega) (by omega) _ HU.out).mono ?_
  rintro e w3 ⟨rfl, hb3⟩
  have G3 := Lib.hid (G2.out.below hb3)
  have B3 := Lib.hid (B2.out.trans (hb3.mono B2.out.size))
  clear hb3
  go_wp2_with fail
  refine (under_is a b _ G3.out (by omega) (by omega) _ HU.out).mono ?_
  rintro e w4 ⟨rfl, hb4⟩
  go_wp2_with fail
  go_ret
  exact ⟨rfl, B3.out.trans (hb4.mono B3.out.size)⟩

set_option maxHeartbeats 1000000 in
set_option maxRecDepth 100000 in
theorem nameUnder_ff (a b c : ByteArray) (w : World) (g : Gl w) (h1 : a.size ≤ 400) (h2 : b.size ≤ 400) (h3 : c.size ≤ 400) (hu : underB a b = true) (hx : underB b a = false) (hy : underB b c = false) :
    Calls Tryd.prog 5 #[.string a, .string b, .string c] w (Ret w (.bool true)) := by
  have G0 := Lib.hid g
  have B0 := Lib.hid (Below.refl w.heap.size w)
  have HRA := Lib.hid (under_iff hu).1
  have HRB := Lib.hid (under_iff hu).2.1
  have hle := under_parts hu
  have HU := Lib.hid hu
  have HX := Lib.hid hx
  have HY := Lib.hid hy
  obtain ⟨P, hP⟩ : ∃ P, partsOf a = P := ⟨_, rfl⟩
  obtain ⟨Q, hQ⟩ : ∃ Q, partsOf b = Q := ⟨_, rfl⟩
  rw [hP, hQ] at hle
  have HP := Lib.hid hP
  have HQ := Lib.hid hQ
  have HLE := Lib.hid hle
  clear g hu hx hy hP hQ hle
  go_enter Tryd.func5, Tryd.ntmps5
  go_wp2_with fail
  refine (alive_any _ G0.out).mono ?_
  rintro e w1 ⟨rfl, hb1⟩
  have G1 := Lib.hid (G0.out.below hb1)
  have B1 := Lib.hid (B0.out.trans (hb1.mono B0.out.size))
  clear hb1
  go_wp2_with fail
  refine (under_is a b _ G1.out (by omega) (by omega) _ HU.out).mono ?_
  rintro e w2 ⟨rfl, hb2⟩
  have G2 := Lib.hid (G1.out.below hb2)
  have B2 := Lib.hid (B1.out.trans (hb2.mono B1.out.size))
  clear hb2
  go_wp2_with fail
  refine (under_is b a _ G2.out (by omega) (by omega) _ HX.out).mono ?_
  rintro e w3 ⟨rfl, hb3⟩
  have G3 := Lib.hid (G2.out.below hb3)
  have B3 := Lib.hid (B2.out.trans (hb3.mono B2.out.size))
  clear hb3
  go_wp2_with fail
  refine (under_is a b _ G3.out (by omega) (by omega) _ HU.out).mono ?_
  rintro e w4 ⟨rfl, hb4⟩
  have G4 := Lib.hid (G3.out.below hb4)
  have B4 := Lib.hid (B3.out.trans (hb4.mono B3.out.size))
  clear hb4
  go_wp2_with fail
  refine (under_is b c _ G4.out (by omega) (by omega) _ HY.out).mono ?_
  rintro e w5 ⟨rfl, hb5⟩
  have G5 := Lib.hid (G4.out.below hb5)
  have B5 := Lib.hid (B4.out.trans (hb5.mono B4.out.size))
  clear hb5
  go_wp2_with fail
  refine (under_is a b _ G5.out (by omega) (by omega) _ HU.out).mono ?_
  rintro e w6 ⟨rfl, hb6⟩
  have G6 := Lib.hid (G5.out.below hb6)
  have B6 := Lib.hid (B5.out.trans (hb6.mono B5.out.size))
  clear hb6
  go_wp2_with fail
  refine (right_is a _ G6.out (by omega) _ HRA.out).mono ?_
  rintro e w7 ⟨rfl, hb7⟩
  have G7 := Lib.hid (G6.out.below hb7)
  have B7 := Lib.hid (B6.out.trans (hb7.mono B6.out.size))
  clear hb7
  go_wp2_with fail
  refine (right_is b _ G7.out (by omega) _ HRB.out).mono ?_
  rintro e w8 ⟨rfl, hb8⟩
  have G8 := Lib.hid (G7.out.below hb8)
  have B8 := Lib.hid (B7.out.trans (hb8.mono B7.out.size))
  clear hb8
  go_wp2_with fail
  refine (parts_any b _ G8.out (by omega)).mono ?_
  rintro e w9 ⟨A1, n1, c1, rfl, hn1, _, _, _, hb9⟩
  have G9 := Lib.hid (G8.out.below hb9)
  have B9 := Lib.hid (B8.out.trans (hb9.mono B8.out.size))
  rw [HQ.out] at hn1
  have HN1 := Lib.hid hn1
  clear hb9 hn1
  go_wp2_with fail
  refine (parts_any a _ G9.out (by omega)).mono ?_
  rintro e w10 ⟨A2, n2, c2, rfl, hn2, _, _, _, hb10⟩
  rw [HP.out] at hn2
  have hnn : (n1 : Int) ≤ (n2 : Int) := by have := HLE.out; have := HN1.out; omega
  clear hn2
  go_wp2_with fail
  go_ret
  exact ⟨rfl, B9.out.trans (hb10.mono B9.out.size)⟩

set_option maxHeartbeats 1000000 in
set_option maxRecDepth 100000 in
theorem nameUnder_ft (a b c : ByteArray) (w : World) (g : Gl w) (h1 : a.size ≤ 400) (h2 : b.size ≤ 400) (h3 : c.size ≤ 400) (hu : underB a b = true) (hx : underB b a = false) (hy : underB b c = true) :
    Calls Tryd.prog 5 #[.string a, .string b, .string c] w (Ret w (.bool true)) := by
  have G0 := Lib.hid g
  have B0 := Lib.hid (Below.refl w.heap.size w)
  have HRA := Lib.hid (under_iff hu).1
  have HRB := Lib.hid (under_iff hu).2.1
  have hle := under_parts hu
  have HU := Lib.hid hu
  have HX := Lib.hid hx
  have HY := Lib.hid hy
  have HZ := Lib.hid (under_trans hu hy)
  obtain ⟨P, hP⟩ : ∃ P, partsOf a = P := ⟨_, rfl⟩
  obtain ⟨Q, hQ⟩ : ∃ Q, partsOf b = Q := ⟨_, rfl⟩
  rw [hP, hQ] at hle
  have HP := Lib.hid hP
  have HQ := Lib.hid hQ
  have HLE := Lib.hid hle
  clear g hu hx hy hP hQ hle
  go_enter Tryd.func5, Tryd.ntmps5
  go_wp2_with fail
  refine (alive_any _ G0.out).mono ?_
  rintro e w1 ⟨rfl, hb1⟩
  have G1 := Lib.hid (G0.out.below hb1)
  have B1 := Lib.hid (B0.out.trans (hb1.mono B0.out.size))
  clear hb1
  go_wp2_with fail
  refine (under_is a b _ G1.out (by omega) (by omega) _ HU.out).mono ?_
  rintro e w2 ⟨rfl, hb2⟩
  have G2 := Lib.hid (G1.out.below hb2)
  have B2 := Lib.hid (B1.out.trans (hb2.mono B1.out.size))
  clear hb2
  go_wp2_with fail
  refine (under_is b a _ G2.out (by omega) (by omega) _ HX.out).mono ?_
  rintro e w3 ⟨rfl, hb3⟩
  have G3 := Lib.hid (G2.out.below hb3)
  have B3 := Lib.hid (B2.out.trans (hb3.mono B2.out.size))
  clear hb3
  go_wp2_with fail
  refine (under_is a b _ G3.out (by omega) (by omega) _ HU.out).mono ?_
  rintro e w4 ⟨rfl, hb4⟩
  have G4 := Lib.hid (G3.out.below hb4)
  have B4 := Lib.hid (B3.out.trans (hb4.mono B3.out.size))
  clear hb4
  go_wp2_with fail
  refine (under_is b c _ G4.out (by omega) (by omega) _ HY.out).mono ?_
  rintro e w5 ⟨rfl, hb5⟩
  have G5 := Lib.hid (G4.out.below hb5)
  have B5 := Lib.hid (B4.out.trans (hb5.mono B4.out.size))
  clear hb5
  go_wp2_with fail
  refine (under_is a c _ G5.out (by omega) (by omega) _ HZ.out).mono ?_
  rintro e w6 ⟨rfl, hb6⟩
  have G6 := Lib.hid (G5.out.below hb6)
  have B6 := Lib.hid (B5.out.trans (hb6.mono B5.out.size))
  clear hb6
  go_wp2_with fail
  refine (under_is a b _ G6.out (by omega) (by omega) _ HU.out).mono ?_
  rintro e w7 ⟨rfl, hb7⟩
  have G7 := Lib.hid (G6.out.below hb7)
  have B7 := Lib.hid (B6.out.trans (hb7.mono B6.out.size))
  clear hb7
  go_wp2_with fail
  refine (right_is a _ G7.out (by omega) _ HRA.out).mono ?_
  rintro e w8 ⟨rfl, hb8⟩
  have G8 := Lib.hid (G7.out.below hb8)
  have B8 := Lib.hid (B7.out.trans (hb8.mono B7.out.size))
  clear hb8
  go_wp2_with fail
  refine (right_is b _ G8.out (by omega) _ HRB.out).mono ?_
  rintro e w9 ⟨rfl, hb9⟩
  have G9 := Lib.hid (G8.out.below hb9)
  have B9 := Lib.hid (B8.out.trans (hb9.mono B8.out.size))
  clear hb9
  go_wp2_with fail
  refine (parts_any b _ G9.out (by omega)).mono ?_
  rintro e w10 ⟨A1, n1, c1, rfl, hn1, _, _, _, hb10⟩
  have G10 := Lib.hid (G9.out.below hb10)
  have B10 := Lib.hid (B9.out.trans (hb10.mono B9.out.size))
  rw [HQ.out] at hn1
  have HN1 := Lib.hid hn1
  clear hb10 hn1
  go_wp2_with fail
  refine (parts_any a _ G10.out (by omega)).mono ?_
  rintro e w11 ⟨A2, n2, c2, rfl, hn2, _, _, _, hb11⟩
  rw [HP.out] at hn2
  have hnn : (n1 : Int) ≤ (n2 : Int) := by have := HLE.out; have := HN1.out; omega
  clear hn2
  go_wp2_with fail
  go_ret
  exact ⟨rfl, B10.out.trans (hb11.mono B10.out.size)⟩

set_option maxHeartbeats 1000000 in
set_option maxRecDepth 100000 in
theorem nameUnder_tf (a b c : ByteArray) (w : World) (g : Gl w) (h1 : a.size ≤ 400) (h2 : b.size ≤ 400) (h3 : c.size ≤ 400) (hu : underB a b = true) (hx : underB b a = true) (hy : underB b c = false) :
    Calls Tryd.prog 5 #[.string a, .string b, .string c] w (Ret w (.bool true)) := by
  have G0 := Lib.hid g
  have B0 := Lib.hid (Below.refl w.heap.size w)
  have HRA := Lib.hid (under_iff hu).1
  have HRB := Lib.hid (under_iff hu).2.1
  have hle := under_parts hu
  have HU := Lib.hid hu
  have HX := Lib.hid hx
  have HY := Lib.hid hy
  have heq : (a.toList == b.toList) = true := by rw [under_antisymm hu hx]; simp
  obtain ⟨P, hP⟩ : ∃ P, partsOf a = P := ⟨_, rfl⟩
  obtain ⟨Q, hQ⟩ : ∃ Q, partsOf b = Q := ⟨_, rfl⟩
  rw [hP, hQ] at hle
  have HP := Lib.hid hP
  have HQ := Lib.hid hQ
  have HLE := Lib.hid hle
  clear g hu hx hy hP hQ hle
  go_enter Tryd.func5, Tryd.ntmps5
  go_wp2_with fail
  refine (alive_any _ G0.out).mono ?_
  rintro e w1 ⟨rfl, hb1⟩
  have G1 := Lib.hid (G0.out.below hb1)
  have B1 := Lib.hid (B0.out.trans (hb1.mono B0.out.size))
  clear hb1
  go_wp2_with fail
  refine (under_is a b _ G1.out (by omega) (by omega) _ HU.out).mono ?_
  rintro e w2 ⟨rfl, hb2⟩
  have G2 := Lib.hid (G1.out.below hb2)
  have B2 := Lib.hid (B1.out.trans (hb2.mono B1.out.size))
  clear hb2
  go_wp2_with fail
  refine (under_is b a _ G2.out (by omega) (by omega) _ HX.out).mono ?_
  rintro e w3 ⟨rfl, hb3⟩
  have G3 := Lib.hid (G2.out.below hb3)
  have B3 := Lib.hid (B2.out.trans (hb3.mono B2.out.size))
  clear hb3
  go_wp2_with fail
  refine (under_is a b _ G3.out (by omega) (by omega) _ HU.out).mono ?_
  rintro e w4 ⟨rfl, hb4⟩
  have G4 := Lib.hid (G3.out.below hb4)
  have B4 := Lib.hid (B3.out.trans (hb4.mono B3.out.size))
  clear hb4
  go_wp2_with fail
  refine (under_is b c _ G4.out (by omega) (by omega) _ HY.out).mono ?_
  rintro e w5 ⟨rfl, hb5⟩
  have G5 := Lib.hid (G4.out.below hb5)
  have B5 := Lib.hid (B4.out.trans (hb5.mono B4.out.size))
  clear hb5
  go_wp2_with fail
  refine (under_is a b _ G5.out (by omega) (by omega) _ HU.out).mono ?_
  rintro e w6 ⟨rfl, hb6⟩
  have G6 := Lib.hid (G5.out.below hb6)
  have B6 := Lib.hid (B5.out.trans (hb6.mono B5.out.size))
  clear hb6
  go_wp2_with fail
  refine (right_is a _ G6.out (by omega) _ HRA.out).mono ?_
  rintro e w7 ⟨rfl, hb7⟩
  have G7 := Lib.hid (G6.out.below hb7)
  have B7 := Lib.hid (B6.out.trans (hb7.mono B6.out.size))
  clear hb7
  go_wp2_with fail
  refine (right_is b _ G7.out (by omega) _ HRB.out).mono ?_
  rintro e w8 ⟨rfl, hb8⟩
  have G8 := Lib.hid (G7.out.below hb8)
  have B8 := Lib.hid (B7.out.trans (hb8.mono B7.out.size))
  clear hb8
  go_wp2_with fail
  refine (parts_any b _ G8.out (by omega)).mono ?_
  rintro e w9 ⟨A1, n1, c1, rfl, hn1, _, _, _, hb9⟩
  have G9 := Lib.hid (G8.out.below hb9)
  have B9 := Lib.hid (B8.out.trans (hb9.mono B8.out.size))
  rw [HQ.out] at hn1
  have HN1 := Lib.hid hn1
  clear hb9 hn1
  go_wp2_with fail
  refine (parts_any a _ G9.out (by omega)).mono ?_
  rintro e w10 ⟨A2, n2, c2, rfl, hn2, _, _, _, hb10⟩
  rw [HP.out] at hn2
  have hnn : (n1 : Int) ≤ (n2 : Int) := by have := HLE.out; have := HN1.out; omega
  clear hn2
  go_wp2_with fail
  go_ret
  exact ⟨rfl, B9.out.trans (hb10.mono B9.out.size)⟩

set_option maxHeartbeats 1000000 in
set_option maxRecDepth 100000 in
theorem nameUnder_tt (a b c : ByteArray) (w : World) (g : Gl w) (h1 : a.size ≤ 400) (h2 : b.size ≤ 400) (h3 : c.size ≤ 400) (hu : underB a b = true) (hx : underB b a = true) (hy : underB b c = true) :
    Calls Tryd.prog 5 #[.string a, .string b, .string c] w (Ret w (.bool true)) := by
  have G0 := Lib.hid g
  have B0 := Lib.hid (Below.refl w.heap.size w)
  have HRA := Lib.hid (under_iff hu).1
  have HRB := Lib.hid (under_iff hu).2.1
  have hle := under_parts hu
  have HU := Lib.hid hu
  have HX := Lib.hid hx
  have HY := Lib.hid hy
  have heq : (a.toList == b.toList) = true := by rw [under_antisymm hu hx]; simp
  have HZ := Lib.hid (under_trans hu hy)
  obtain ⟨P, hP⟩ : ∃ P, partsOf a = P := ⟨_, rfl⟩
  obtain ⟨Q, hQ⟩ : ∃ Q, partsOf b = Q := ⟨_, rfl⟩
  rw [hP, hQ] at hle
  have HP := Lib.hid hP
  have HQ := Lib.hid hQ
  have HLE := Lib.hid hle
  clear g hu hx hy hP hQ hle
  go_enter Tryd.func5, Tryd.ntmps5
  go_wp2_with fail
  refine (alive_any _ G0.out).mono ?_
  rintro e w1 ⟨rfl, hb1⟩
  have G1 := Lib.hid (G0.out.below hb1)
  have B1 := Lib.hid (B0.out.trans (hb1.mono B0.out.size))
  clear hb1
  go_wp2_with fail
  refine (under_is a b _ G1.out (by omega) (by omega) _ HU.out).mono ?_
  rintro e w2 ⟨rfl, hb2⟩
  have G2 := Lib.hid (G1.out.below hb2)
  have B2 := Lib.hid (B1.out.trans (hb2.mono B1.out.size))
  clear hb2
  go_wp2_with fail
  refine (under_is b a _ G2.out (by omega) (by omega) _ HX.out).mono ?_
  rintro e w3 ⟨rfl, hb3⟩
  have G3 := Lib.hid (G2.out.below hb3)
  have B3 := Lib.hid (B2.out.trans (hb3.mono B2.out.size))
  clear hb3
  go_wp2_with fail
  refine (under_is a b _ G3.out (by omega) (by omega) _ HU.out).mono ?_
  rintro e w4 ⟨rfl, hb4⟩
  have G4 := Lib.hid (G3.out.below hb4)
  have B4 := Lib.hid (B3.out.trans (hb4.mono B3.out.size))
  clear hb4
  go_wp2_with fail
  refine (under_is b c _ G4.out (by omega) (by omega) _ HY.out).mono ?_
  rintro e w5 ⟨rfl, hb5⟩
  have G5 := Lib.hid (G4.out.below hb5)
  have B5 := Lib.hid (B4.out.trans (hb5.mono B4.out.size))
  clear hb5
  go_wp2_with fail
  refine (under_is a c _ G5.out (by omega) (by omega) _ HZ.out).mono ?_
  rintro e w6 ⟨rfl, hb6⟩
  have G6 := Lib.hid (G5.out.below hb6)
  have B6 := Lib.hid (B5.out.trans (hb6.mono B5.out.size))
  clear hb6
  go_wp2_with fail
  refine (under_is a b _ G6.out (by omega) (by omega) _ HU.out).mono ?_
  rintro e w7 ⟨rfl, hb7⟩
  have G7 := Lib.hid (G6.out.below hb7)
  have B7 := Lib.hid (B6.out.trans (hb7.mono B6.out.size))
  clear hb7
  go_wp2_with fail
  refine (right_is a _ G7.out (by omega) _ HRA.out).mono ?_
  rintro e w8 ⟨rfl, hb8⟩
  have G8 := Lib.hid (G7.out.below hb8)
  have B8 := Lib.hid (B7.out.trans (hb8.mono B7.out.size))
  clear hb8
  go_wp2_with fail
  refine (right_is b _ G8.out (by omega) _ HRB.out).mono ?_
  rintro e w9 ⟨rfl, hb9⟩
  have G9 := Lib.hid (G8.out.below hb9)
  have B9 := Lib.hid (B8.out.trans (hb9.mono B8.out.size))
  clear hb9
  go_wp2_with fail
  refine (parts_any b _ G9.out (by omega)).mono ?_
  rintro e w10 ⟨A1, n1, c1, rfl, hn1, _, _, _, hb10⟩
  have G10 := Lib.hid (G9.out.below hb10)
  have B10 := Lib.hid (B9.out.trans (hb10.mono B9.out.size))
  rw [HQ.out] at hn1
  have HN1 := Lib.hid hn1
  clear hb10 hn1
  go_wp2_with fail
  refine (parts_any a _ G10.out (by omega)).mono ?_
  rintro e w11 ⟨A2, n2, c2, rfl, hn2, _, _, _, hb11⟩
  rw [HP.out] at hn2
  have hnn : (n1 : Int) ≤ (n2 : Int) := by have := HLE.out; have := HN1.out; omega
  clear hn2
  go_wp2_with fail
  go_ret
  exact ⟨rfl, B10.out.trans (hb11.mono B10.out.size)⟩

theorem nameUnder_any (a b c : ByteArray) (w : World) (g : Gl w) :
    Calls Tryd.prog 5 #[.string a, .string b, .string c] w (Ret w (.bool true)) := by
  by_cases h : a.size ≤ 400 ∧ b.size ≤ 400 ∧ c.size ≤ 400
  · obtain ⟨h1, h2, h3⟩ := h
    cases hu : underB a b
    · exact nameUnder_no a b c w g h1 h2 h3 hu
    · cases hx : underB b a <;> cases hy : underB b c
      · exact nameUnder_ff a b c w g h1 h2 h3 hu hx hy
      · exact nameUnder_ft a b c w g h1 h2 h3 hu hx hy
      · exact nameUnder_tf a b c w g h1 h2 h3 hu hx hy
      · exact nameUnder_tt a b c w g h1 h2 h3 hu hx hy
  · exact nameUnder_long a b c w g h
end Go.Proofs.YtnknaecfjkiibaaDoor
