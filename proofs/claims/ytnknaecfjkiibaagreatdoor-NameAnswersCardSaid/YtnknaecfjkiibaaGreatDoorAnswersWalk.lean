/-
  The law NameAnswers, walked: whatever texts and list come in, it returns true, and nothing that was there turns.
  Conditions: as in the contracts of Right ('Gl'); the list lies in memory as told by 'Txt'; it takes at most 2^47 bytes, and each text at most so many.
-/
import Derived.Test.YtnknaecfjkiibaaGreatDoorRefSort
namespace Go.Proofs.YtnknaecfjkiibaaGreatDoor
open Go.RowKit

/-- What Fresh answers: of no name an empty text, of a name its first fellow that isn't taken. -/
def FreshIs (s : ByteArray) (xs : List ByteArray) (F : ByteArray) : Prop :=
  (Nm.rightB s = false ∧ F = ⟨#[]⟩) ∨ (Nm.rightB s = true ∧ ∃ j, F = nameKB s j ∧ Nm.nameK s.data.toList j ∉ takenL xs ∧ ∀ i, i < j → Nm.nameK s.data.toList i ∈ takenL xs)
set_option maxHeartbeats 400000 in
theorem fresh_f (s : ByteArray) (A : Option Addr) (n c : Nat) (xs : List ByteArray) (w : World) (g : Gl w) (h : s.size ≤ 140737488355328) (hx : Txt w A xs) (hN : xs.length = n) (hn : n ≤ 2000) (hs : ∀ x ∈ xs, x.size ≤ 140737488355328) :
    Calls Tryz.prog 20 #[.string s, .slice A n c] w fun e w' => (∃ F, e = .returned (.string F) ∧ FreshIs s xs F) ∧ Below w.heap.size w w' := by
  cases hr : Nm.rightB s
  · have G := Lib.hid g
    have HR := Lib.hid hr
    clear g hr
    go_enter Tryz.func20, Tryz.ntmps20
    go_wp2_with (go_at_call 9; refine (right_is s _ G.out (by omega) _ HR.out).mono ?_; rintro e w1 ⟨rfl, hb⟩)
    go_ret
    exact ⟨⟨_, rfl, .inl ⟨HR.out, rfl⟩⟩, hb⟩
  · exact (fresh_name s A n c xs w g hr hx hN hn hs).mono fun e w' ⟨⟨j, he, _, h1, h2⟩, hb⟩ => ⟨⟨_, he, .inr ⟨hr, j, rfl, h1, h2⟩⟩, hb⟩
theorem refFresh_f (s : ByteArray) (A : Option Addr) (n c : Nat) (xs : List ByteArray) (w : World) (h : s.size ≤ 140737488355328) (hx : Txt w A xs) (hN : xs.length = n) (hn : n ≤ 2000) (F : ByteArray) (hF : FreshIs s xs F) :
    Calls Tryz.prog 21 #[.string s, .slice A n c] w (Ret w (.string F)) := by
  rcases hF with ⟨hr, rfl⟩ | ⟨hr, j, rfl, h1, h2⟩
  · exact refFresh_no s A n c w h hr
  · refine (refFresh_name s A n c xs w hr hx hN hn).mono fun e w' ⟨⟨j', he, _, h3, h4⟩, hb⟩ => ⟨?_, hb⟩
    have : j = j' := by
      rcases Nat.lt_trichotomy j j' with h5 | h5 | h5
      · exact absurd (h4 j h5) h1
      · exact h5
      · exact absurd (h2 j' h5) h3
    subst this
    exact he
theorem partsOf_len (s : ByteArray) : (partsOf s).length ≤ 140737488355328 := by
  cases hr : Nm.rightB s
  · rw [partsOf_no hr]; exact Nat.zero_le _
  · rw [partsOf_yes hr]
    have := (right_parts hr).1
    have hl := Nm.parts_le s
    omega
theorem join_v (A : Option Addr) (n c : Nat) (xs : List ByteArray) (w : World) (g : Gl w) (hx : Txt w A xs) (hN : xs.length = n) (hn : n ≤ 140737488355328) (hc : n ≤ c) (hs : ∀ x ∈ xs, x.size ≤ 140737488355328) (J : ByteArray) (O : Bool) (hJ : joinS xs = J) (hO : joinOk xs = O) :
    Calls Tryz.prog 7 #[.slice A n c] w (Ret w (.tuple #[.string J, .bool O])) := by
  subst hJ; subst hO; exact join_any A n c xs w g hx hN hn hc hs
theorem refJoin_v (A : Option Addr) (n c : Nat) (xs : List ByteArray) (w : World) (hx : Txt w A xs) (hN : xs.length = n) (hn : n ≤ 140737488355328) (hs : ∀ x ∈ xs, x.size ≤ 140737488355328) (J : ByteArray) (O : Bool) (hJ : joinS xs = J) (hO : joinOk xs = O) :
    Calls Tryz.prog 8 #[.slice A n c] w fun e w' => e = .returned (.tuple #[.string J, .bool O]) ∧ w = w' := by
  subst hJ; subst hO; exact refJoin_any A n c xs w hx hN hn hs
theorem parts_v (s : ByteArray) (w : World) (g : Gl w) (hs : s.size ≤ 140737488355328) (P : List ByteArray) (hP : partsOf s = P) :
    Calls Tryz.prog 12 #[.string s] w (SliceRet w P) := by
  subst hP; exact parts_any s w g hs
theorem parent_v (s : ByteArray) (w : World) (g : Gl w) (hs : s.size ≤ 140737488355328) (P : ByteArray) (hP : parentOf s = P) :
    Calls Tryz.prog 14 #[.string s] w (Ret w (.string P)) := by
  subst hP; exact parent_any s w g hs
theorem last_v (s : ByteArray) (w : World) (g : Gl w) (hs : s.size ≤ 140737488355328) (P : ByteArray) (hP : lastOf s = P) :
    Calls Tryz.prog 16 #[.string s] w (Ret w (.string P)) := by
  subst hP; exact last_any s w g hs
theorem sort_v (A : Option Addr) (n c : Nat) (xs ys : List ByteArray) (w : World) (hx : Txt w A xs) (hN : xs.length = n) (hA : A = none → c = 0) (hn : n * 16 ≤ 140737488355328) (hy : sortedOf xs = ys) :
    Calls Tryz.prog 22 #[.slice A n c] w (SliceRet w ys) := by
  subst hy; exact sort_any A n c xs w hx hN hA hn
theorem refSort_v (A : Option Addr) (n c : Nat) (xs ys : List ByteArray) (w : World) (hx : Txt w A xs) (hN : xs.length = n) (hn : n ≤ 2000) (hy : sortedOf xs = ys) :
    Calls Tryz.prog 23 #[.slice A n c] w (SliceRet w ys) := by
  subst hy; exact refSort_is A n c xs w hx hN hn
theorem same_v (A A' : Option Addr) (n n' c c' : Nat) (xs : List ByteArray) (w : World) (hx : Txt w A xs) (hx' : Txt w A' xs) (hn : xs.length = n) (hn' : xs.length = n') (hb : n ≤ 140737488355328) :
    Calls Tryz.prog 11 #[.slice A n c, .slice A' n' c'] w (Ret w (.bool true)) := by
  subst hn; subst hn'
  refine (sameTexts_any A A' c c' xs xs w hx hx' hb).mono fun e w' ⟨he, q, hw⟩ => ⟨?_, by subst hw; exact quietBelow w q⟩
  rw [he, decide_eq_true rfl]

set_option maxHeartbeats 4000000 in
set_option maxRecDepth 100000 in
theorem nameAnswers_any (s t : ByteArray) (A : Option Addr) (n c : Nat) (xs : List ByteArray) (w : World) (g : Gl w) (hx : Txt w A xs) (hN : xs.length = n) (hA : A = none → c = 0) (hn : n * 16 ≤ 140737488355328) (hs : ∀ x ∈ xs, x.size ≤ 140737488355328) :
    Calls Tryz.prog 3 #[.string s, .string t, .slice A n c] w (Ret w (.bool true)) := by
  have G0 := Lib.hid g
  have B0 := Lib.hid (Below.refl w.heap.size w)
  have HX := Lib.hid hx
  have HN := Lib.hid hN
  have HS := Lib.hid hs
  have HA := Lib.hid hA
  clear g hx hN hs hA
  go_enter Tryz.func3, Tryz.ntmps3
  go_wp2_with fail
  refine (alive_any _ G0.out).mono ?_
  rintro e w1 ⟨rfl, hb1⟩
  have G1 := Lib.hid (G0.out.below hb1)
  have B1 := Lib.hid (B0.out.trans (hb1.mono B0.out.size))
  have HX1 := Lib.hid (HX.out.below hb1)
  clear hb1
  by_cases h1 : s.size ≤ 400
  · have hs400 : decide ((400 : Int) < (s.size : Int)) = false := by simp; omega
    by_cases h2 : t.size ≤ 400
    · have ht400 : decide ((400 : Int) < (t.size : Int)) = false := by simp; omega
      go_wp2_with fail
      refine (lengths_any A c n xs _ HX1.out (by omega) HN.out HS.out).mono ?_
      rintro e w2 ⟨⟨r, rfl, hres⟩, rfl⟩
      by_cases hle : r ≤ 2000
      · obtain ⟨hn2, _⟩ := hres hle
        have hn2000 : n ≤ 2000 := by rw [← HN.out]; exact hn2
        have hr2 : decide ((2000 : Int) < (r : Int)) = false := by simp; omega
        clear hres hn2
        obtain ⟨J, hJ⟩ : ∃ J, joinS xs = J := ⟨_, rfl⟩
        obtain ⟨O, hO⟩ : ∃ O, joinOk xs = O := ⟨_, rfl⟩
        obtain ⟨R, hR⟩ : ∃ R, Nm.rightB s = R := ⟨_, rfl⟩
        obtain ⟨P, hP⟩ : ∃ P, partsOf s = P := ⟨_, rfl⟩
        obtain ⟨Pa, hPa⟩ : ∃ Pa, parentOf s = Pa := ⟨_, rfl⟩
        obtain ⟨La, hLa⟩ : ∃ La, lastOf s = La := ⟨_, rfl⟩
        obtain ⟨U, hU⟩ : ∃ U, underB s t = U := ⟨_, rfl⟩
        obtain ⟨Y, hY⟩ : ∃ Y, sortedOf xs = Y := ⟨_, rfl⟩
        have HPl : Hid (P.length ≤ 140737488355328) := by subst hP; exact partsOf_len s
        have HYl : Hid (Y.length ≤ 2000) := by subst hY; have := sortedOf_len xs; have := HN.out; unfold Hid; omega
        have HJ := Lib.hid hJ
        have HO := Lib.hid hO
        have HR := Lib.hid hR
        have HP := Lib.hid hP
        have HPa := Lib.hid hPa
        have HLa := Lib.hid hLa
        have HU := Lib.hid hU
        have HY := Lib.hid hY
        clear hJ hO hR hP hPa hLa hU hY
        go_wp2_with fail
        refine (copyTexts_any A n c xs _ HX1.out HN.out HA.out hn).mono ?_
        rintro e w3 ⟨A1, n1, c1, rfl, hn1, hc1, hA1, hx1, hb3⟩
        have G3 := Lib.hid (G1.out.below hb3)
        have B3 := Lib.hid (B1.out.trans (hb3.mono B1.out.size))
        have HX3 := Lib.hid (HX1.out.below hb3)
        have HW3 := Lib.hid hx1
        have HN1 := Lib.hid hn1
        have HA1 := Lib.hid hA1
        have hn12 : n1 ≤ 2000 := by have := HN.out; omega
        clear hx1 hn1 hA1
        clear hb3
        go_wp2_with fail
        refine (join_v A1 n1 c1 xs _ G3.out HW3.out HN1.out (by omega) hc1 HS.out J O HJ.out HO.out).mono ?_
        rintro e w4 ⟨rfl, hb4⟩
        have G4 := Lib.hid (G3.out.below hb4)
        have B4 := Lib.hid (B3.out.trans (hb4.mono B3.out.size))
        have HX4 := Lib.hid (HX3.out.below hb4)
        have HW4 := Lib.hid (HW3.out.below hb4)
        clear hb4
        go_wp2_with fail
        refine (refJoin_v A n c xs _ HX4.out HN.out (by omega) HS.out J O HJ.out HO.out).mono ?_
        rintro e w4' ⟨rfl, rfl⟩
        go_wp2_with fail
        refine (right_is s _ G4.out (by omega) R HR.out).mono ?_
        rintro e w5 ⟨rfl, hb5⟩
        have G5 := Lib.hid (G4.out.below hb5)
        have B5 := Lib.hid (B4.out.trans (hb5.mono B4.out.size))
        have HX5 := Lib.hid (HX4.out.below hb5)
        have HW5 := Lib.hid (HW4.out.below hb5)
        clear hb5
        go_wp2_with fail
        refine (refRight_is s _ (by omega) R HR.out).mono ?_
        rintro e w5' ⟨rfl, rfl⟩
        go_wp2_with fail
        refine (parts_v s _ G5.out (by omega) P HP.out).mono ?_
        rintro e w6 ⟨A2, n2, c2, rfl, hn2, hc2, hA2, hx2, hb6⟩
        have G6 := Lib.hid (G5.out.below hb6)
        have B6 := Lib.hid (B5.out.trans (hb6.mono B5.out.size))
        have HX6 := Lib.hid (HX5.out.below hb6)
        have HW6 := Lib.hid (HW5.out.below hb6)
        have HV6 := Lib.hid hx2
        have HN2 := Lib.hid hn2
        clear hx2 hn2 hc2 hA2
        clear hb6
        go_wp2_with fail
        refine (refParts_is s _ (by omega) P HP.out).mono ?_
        rintro e w7 ⟨A3, n3, c3, rfl, hn3, hc3, hA3, hx3, hb7⟩
        have G7 := Lib.hid (G6.out.below hb7)
        have B7 := Lib.hid (B6.out.trans (hb7.mono B6.out.size))
        have HX7 := Lib.hid (HX6.out.below hb7)
        have HW7 := Lib.hid (HW6.out.below hb7)
        have HV7 := Lib.hid (HV6.out.below hb7)
        have HZ := Lib.hid hx3
        have HN3 := Lib.hid hn3
        clear hx3 hn3 hc3 hA3
        clear hb7
        go_wp2_with fail
        refine (same_v A2 A3 n2 n3 c2 c3 P _ HV7.out HZ.out HN2.out HN3.out (by have := HN2.out; have := HPl.out; omega)).mono ?_
        rintro e w8 ⟨rfl, hb8⟩
        have G8 := Lib.hid (G7.out.below hb8)
        have B8 := Lib.hid (B7.out.trans (hb8.mono B7.out.size))
        have HX8 := Lib.hid (HX7.out.below hb8)
        have HW8 := Lib.hid (HW7.out.below hb8)
        clear hb8
        go_wp2_with fail
        refine (parent_v s _ G8.out (by omega) Pa HPa.out).mono ?_
        rintro e w9 ⟨rfl, hb9⟩
        have G9 := Lib.hid (G8.out.below hb9)
        have B9 := Lib.hid (B8.out.trans (hb9.mono B8.out.size))
        have HX9 := Lib.hid (HX8.out.below hb9)
        have HW9 := Lib.hid (HW8.out.below hb9)
        clear hb9
        go_wp2_with fail
        refine (refParent_is s _ (by omega) Pa HPa.out).mono ?_
        rintro e w9' ⟨rfl, rfl⟩
        go_wp2_with fail
        refine (last_v s _ G9.out (by omega) La HLa.out).mono ?_
        rintro e w10 ⟨rfl, hb10⟩
        have G10 := Lib.hid (G9.out.below hb10)
        have B10 := Lib.hid (B9.out.trans (hb10.mono B9.out.size))
        have HX10 := Lib.hid (HX9.out.below hb10)
        have HW10 := Lib.hid (HW9.out.below hb10)
        clear hb10
        go_wp2_with fail
        refine (refLast_is s _ (by omega) La HLa.out).mono ?_
        rintro e w10' ⟨rfl, rfl⟩
        go_wp2_with fail
        refine (under_is s t _ G10.out (by omega) (by omega) U HU.out).mono ?_
        rintro e w11 ⟨rfl, hb11⟩
        have G11 := Lib.hid (G10.out.below hb11)
        have B11 := Lib.hid (B10.out.trans (hb11.mono B10.out.size))
        have HX11 := Lib.hid (HX10.out.below hb11)
        have HW11 := Lib.hid (HW10.out.below hb11)
        clear hb11
        go_wp2_with fail
        refine (refUnder_is s t _ (by omega) (by omega) U HU.out).mono ?_
        rintro e w11' ⟨rfl, rfl⟩
        go_wp2_with fail
        refine (fresh_f s A1 n1 c1 xs _ G11.out (by omega) HW11.out HN1.out hn12 HS.out).mono ?_
        rintro e w12 ⟨⟨F, rfl, hF⟩, hb12⟩
        have G12 := Lib.hid (G11.out.below hb12)
        have B12 := Lib.hid (B11.out.trans (hb12.mono B11.out.size))
        have HX12 := Lib.hid (HX11.out.below hb12)
        have HW12 := Lib.hid (HW11.out.below hb12)
        have HF := Lib.hid hF
        clear hF
        clear hb12
        go_wp2_with fail
        refine (refFresh_f s A n c xs _ (by omega) HX12.out HN.out hn2000 F HF.out).mono ?_
        rintro e w13 ⟨rfl, hb13⟩
        have G13 := Lib.hid (G12.out.below hb13)
        have B13 := Lib.hid (B12.out.trans (hb13.mono B12.out.size))
        have HX13 := Lib.hid (HX12.out.below hb13)
        have HW13 := Lib.hid (HW12.out.below hb13)
        clear hb13
        go_wp2_with fail
        refine (sort_v A1 n1 c1 xs Y _ HW13.out HN1.out HA1.out (by omega) HY.out).mono ?_
        rintro e w14 ⟨A4, n4, c4, rfl, hn4, hc4, hA4, hx4, hb14⟩
        have G14 := Lib.hid (G13.out.below hb14)
        have B14 := Lib.hid (B13.out.trans (hb14.mono B13.out.size))
        have HX14 := Lib.hid (HX13.out.below hb14)
        have HW14 := Lib.hid (HW13.out.below hb14)
        have HQ14 := Lib.hid hx4
        have HN4 := Lib.hid hn4
        clear hx4 hn4 hc4 hA4
        clear hb14
        go_wp2_with fail
        refine (refSort_v A n c xs Y _ HX14.out HN.out hn2000 HY.out).mono ?_
        rintro e w15 ⟨A5, n5, c5, rfl, hn5, hc5, hA5, hx5, hb15⟩
        have G15 := Lib.hid (G14.out.below hb15)
        have B15 := Lib.hid (B14.out.trans (hb15.mono B14.out.size))
        have HX15 := Lib.hid (HX14.out.below hb15)
        have HW15 := Lib.hid (HW14.out.below hb15)
        have HQ15 := Lib.hid (HQ14.out.below hb15)
        have HT := Lib.hid hx5
        have HN5 := Lib.hid hn5
        clear hx5 hn5 hc5 hA5
        clear hb15
        go_wp2_with fail
        refine (same_v A4 A5 n4 n5 c4 c5 Y _ HQ15.out HT.out HN4.out HN5.out (by have := HN4.out; have := HYl.out; omega)).mono ?_
        rintro e w16 ⟨rfl, hb16⟩
        have G16 := Lib.hid (G15.out.below hb16)
        have B16 := Lib.hid (B15.out.trans (hb16.mono B15.out.size))
        have HX16 := Lib.hid (HX15.out.below hb16)
        have HW16 := Lib.hid (HW15.out.below hb16)
        clear hb16
        go_wp2_with fail
        refine (same_v A1 A n1 n c1 c xs _ HW16.out HX16.out HN1.out HN.out (by omega)).mono ?_
        rintro e w17 ⟨rfl, hb17⟩
        have G17 := Lib.hid (G16.out.below hb17)
        have B17 := Lib.hid (B16.out.trans (hb17.mono B16.out.size))
        have HX17 := Lib.hid (HX16.out.below hb17)
        have HW17 := Lib.hid (HW16.out.below hb17)
        clear hb17
        go_wp2_with fail
        go_ret
        exact ⟨rfl, B17.out⟩
      · have hr2 : decide ((2000 : Int) < (r : Int)) = true := by simp; omega
        clear hres
        go_wp2_with fail
        go_ret
        exact ⟨rfl, B1.out⟩
    · have ht400 : decide ((400 : Int) < (t.size : Int)) = true := by simp; omega
      go_wp2_with fail
      go_ret
      exact ⟨rfl, B1.out⟩
  · have hs400 : decide ((400 : Int) < (s.size : Int)) = true := by simp; omega
    go_wp2_with fail
    go_ret
    exact ⟨rfl, B1.out⟩
end Go.Proofs.YtnknaecfjkiibaaGreatDoor
