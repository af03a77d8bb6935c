/-
  The law NameParts, walked: whatever text comes in, it returns true, and nothing that was there turns.
  Conditions: as in the contracts of Right ('Gl').
-/
import Derived.Test.YtnknaecfjkiibaaDoorDots
import Derived.Deep.RegionHeld3
import Derived.IntWalk
namespace Go.Proofs.YtnknaecfjkiibaaDoor
open Go.RowKit

theorem parts_val (s : ByteArray) (w : World) (g : Gl w) (hs : s.size ≤ 140737488355328) (xs : List ByteArray) (h : partsOf s = xs) :
    Calls Tryd.prog 8 #[.string s] w (SliceRet w xs) := by subst h; exact parts_any s w g hs
theorem parent_val (s : ByteArray) (w : World) (g : Gl w) (hs : s.size ≤ 140737488355328) (p : ByteArray) (h : parentOf s = p) :
    Calls Tryd.prog 10 #[.string s] w (Ret w (.string p)) := by subst h; exact parent_any s w g hs
theorem last_val (s : ByteArray) (w : World) (g : Gl w) (hs : s.size ≤ 140737488355328) (l : ByteArray) (h : lastOf s = l) :
    Calls Tryd.prog 11 #[.string s] w (Ret w (.string l)) := by subst h; exact last_any s w g hs
theorem join_val (A : Option Addr) (n c : Nat) (xs : List ByteArray) (w : World) (g : Gl w) (hx : Txt w A xs) (hN : xs.length = n) (hn : n ≤ 140737488355328) (hc : n ≤ c) (hs : ∀ x ∈ xs, x.size ≤ 140737488355328) (r : ByteArray) (b : Bool) (hr : joinS xs = r) (hb : joinOk xs = b) :
    Calls Tryd.prog 12 #[.slice A n c] w (Ret w (.tuple #[.string r, .bool b])) := by
  subst hr; subst hb
  exact join_any A n c xs w g hx hN hn hc hs

theorem gl_drew {w : World} (g : Gl w) : Gl w.drew := g.below (quietBelow w 1)

set_option maxHeartbeats 1000000 in
set_option maxRecDepth 100000 in
theorem nameParts_long (s : ByteArray) (w : World) (g : Gl w) (h : ¬ s.size ≤ 400) :
    Calls Tryd.prog 3 #[.string s] w (Ret w (.bool true)) := by
  have G := Lib.hid g
  clear g
  go_enter Tryd.func3, Tryd.ntmps3
  go_wp2_with (go_at_call 7; refine (alive_any _ G.out).mono ?_; rintro e w1 ⟨rfl, hb1⟩)
  go_ret
  exact ⟨rfl, by assumption⟩

set_option maxHeartbeats 1000000 in
set_option maxRecDepth 100000 in
theorem nameParts_no (s : ByteArray) (w : World) (g : Gl w) (h1 : s.size ≤ 400) (hr : Nm.rightB s = false) :
    Calls Tryd.prog 3 #[.string s] w (Ret w (.bool true)) := by
  have G0 := Lib.hid g
  have B0 := Lib.hid (Below.refl w.heap.size w)
  have HR := Lib.hid hr
  have HP := Lib.hid (partsOf_no hr)
  have HPA := Lib.hid (parentOf_no hr)
  have HLA := Lib.hid (lastOf_no hr)
  clear g hr
  go_enter Tryd.func3, Tryd.ntmps3
  go_wp2_with fail
  refine (alive_any _ G0.out).mono ?_
  rintro e w1 ⟨rfl, hb1⟩
  have G1 := Lib.hid (G0.out.below hb1)
  have B1 := Lib.hid (B0.out.trans (hb1.mono B0.out.size))
  clear hb1
  go_wp2_with fail
  refine (parts_val s _ G1.out (by omega) _ HP.out).mono ?_
  rintro e w2 ⟨A, n, c, rfl, hn, _, _, _, hb2⟩
  obtain rfl : 0 = n := hn
  have G2 := Lib.hid (G1.out.below hb2)
  have B2 := Lib.hid (B1.out.trans (hb2.mono B1.out.size))
  clear hb2
  go_wp2_with fail
  refine (right_is s _ G2.out (by omega) _ HR.out).mono ?_
  rintro e w3 ⟨rfl, hb3⟩
  have G3 := Lib.hid (G2.out.below hb3)
  have B3 := Lib.hid (B2.out.trans (hb3.mono B2.out.size))
  clear hb3
  go_wp2_with fail
  refine (parent_val s _ G3.out (by omega) _ HPA.out).mono ?_
  rintro e w4 ⟨rfl, hb4⟩
  have G4 := Lib.hid (G3.out.below hb4)
  have B4 := Lib.hid (B3.out.trans (hb4.mono B3.out.size))
  clear hb4
  go_wp2_with fail
  refine (last_val s _ G4.out (by omega) _ HLA.out).mono ?_
  rintro e w5 ⟨rfl, hb5⟩
  go_wp2_with fail
  go_ret
  exact ⟨rfl, B4.out.trans (hb5.mono B4.out.size)⟩

/-- A name's two shapes: one part, or a parent and a last part. -/
def Shape (s p l : ByteArray) (m : Nat) : Prop := (p = ⟨#[]⟩ ∧ m = 0) ∨ (joinOk [p, l] = true ∧ joinS [p, l] = s ∧ p.data.toList ≠ [] ∧ underB s p = true ∧ underB p s = false ∧ p.size ≤ 40 ∧ l.size ≤ 40)
theorem shape_of {s : ByteArray} (h : Nm.rightB s = true) : ∃ p l xs m, parentOf s = p ∧ lastOf s = l ∧ partsOf s = xs ∧ xs.length = m + 1 ∧ xs[m]? = some l ∧ Shape s p l m := by
  rcases dot_split s with ⟨hd, h46⟩ | ⟨p, r, e, hr, hd⟩
  · exact ⟨_, _, [s], 0, parentOf_one h hd, lastOf_one h hd, (partsOf_yes h).trans (parts_nodot h46), rfl, rfl, .inl ⟨rfl, rfl⟩⟩
  · have D := dotted h e hr hd
    obtain ⟨ps, hps⟩ := D.parts
    have hj := dotted_join h D
    have hu := dotted_under h D
    refine ⟨_, _, _, ps.length, D.par, D.last, (partsOf_yes h).trans hps, by simp, by simp, .inr ⟨hj.1, hj.2, D.ne, hu.1, hu.2, (right_parts D.rp).1, (right_parts D.rl).1⟩⟩
theorem part_small {s : ByteArray} (h : Nm.rightB s = true) {xs : List ByteArray} (hx : partsOf s = xs) : joinS xs = s ∧ joinOk xs = true ∧ xs.length ≤ 41 ∧ ∀ x ∈ xs, x.size ≤ 40 := by
  rw [partsOf_yes h] at hx
  subst hx
  have := (right_parts h).1
  have hl := Nm.parts_le s
  exact ⟨join_same h, join_ok h, by omega, fun x hx => (right_parts (part_right h hx)).1⟩

set_option maxHeartbeats 2000000 in
set_option maxRecDepth 100000 in
theorem nameParts_name (s : ByteArray) (w : World) (g : Gl w) (h1 : s.size ≤ 400) (hr : Nm.rightB s = true) :
    Calls Tryd.prog 3 #[.string s] w (Ret w (.bool true)) := by
  obtain ⟨p, l, xs, m, hpa, hla, hpx, hxl, hxm, hsh⟩ := shape_of hr
  obtain ⟨hj, hjo, hx41, hxs⟩ := part_small hr hpx
  have hm40 : m ≤ 40 := by omega
  have G0 := Lib.hid g
  have B0 := Lib.hid (Below.refl w.heap.size w)
  have HR := Lib.hid hr
  have HP := Lib.hid hpx
  have HPA := Lib.hid hpa
  have HLA := Lib.hid hla
  have HJ := Lib.hid hj
  have HJO := Lib.hid hjo
  have HXL := Lib.hid hxl
  have HXM := Lib.hid hxm
  have HSH := Lib.hid hsh
  have HXS := Lib.hid hxs
  have HU := Lib.hid (under_self hr)
  have heq : (s.toList == s.toList) = true := by simp
  have hel : (l.toList == l.toList) = true := by simp
  have h400 : decide ((400 : Int) < (s.size : Int)) = false := by simp; omega
  clear g hr hpa hla hpx hj hjo hxl hxm hsh hx41 hxs
  go_enter Tryd.func3, Tryd.ntmps3
  go_wp2_with fail
  refine (alive_any _ G0.out).mono ?_
  rintro e w1 ⟨rfl, hb1⟩
  have G1 := Lib.hid (G0.out.below hb1)
  have B1 := Lib.hid (B0.out.trans (hb1.mono B0.out.size))
  clear hb1
  go_wp2_with fail
  refine (parts_val s _ G1.out (by omega) _ HP.out).mono ?_
  rintro e w2 ⟨A, n, c, rfl, hn, hc, _, hA, hb2⟩
  obtain rfl : m + 1 = n := HXL.out.symm.trans hn
  obtain ⟨b, o, rfl, hlt, hcell⟩ := hA (by intro e; have := HXL.out; rw [e] at this; simp at this)
  have hc0 := hcell m l HXM.out
  have HA := Lib.hid hA
  have HC0 := Lib.hid hc0
  clear hcell hA hc0 hn
  have G2 := Lib.hid (G1.out.below hb2)
  have B2 := Lib.hid (B1.out.trans (hb2.mono B1.out.size))
  clear hb2
  go_wp2_with fail
  refine (right_is s _ G2.out (by omega) _ HR.out).mono ?_
  rintro e w3 ⟨rfl, hb3⟩
  have G3 := Lib.hid (G2.out.below hb3)
  have B3 := Lib.hid (B2.out.trans (hb3.mono B2.out.size))
  have HA3 := Lib.hid (HA.out.below hb3)
  have HC3 := Lib.hid ((hb3.cell (p := ⟨b, o + m, none⟩) hlt).trans HC0.out)
  have hlt3 : b < w3.heap.size := Nat.lt_of_lt_of_le hlt hb3.size
  clear hb3
  go_wp2_with fail
  refine (join_val _ (m + 1) c xs _ G3.out HA3.out HXL.out (by omega) hc (fun x hx => Nat.le_trans (HXS.out x hx) (by omega)) s true HJ.out HJO.out).mono ?_
  rintro e w4 ⟨rfl, hb4⟩
  have G4 := Lib.hid (G3.out.below hb4)
  have B4 := Lib.hid (B3.out.trans (hb4.mono B3.out.size))
  have hc4 : w4.cell? ⟨b, o + m, none⟩ = some (.string l) := (hb4.cell (p := ⟨b, o + m, none⟩) hlt3).trans HC3.out
  have hlt4 : b < w4.heap.size := Nat.lt_of_lt_of_le hlt3 hb4.size
  clear hb4
  have hm0 : (0 : Int) ≤ (m : Int) := by omega
  have hmlt : (m : Int) < (m : Int) + 1 := by omega
  have hsum : IntKind.i64.wrap ((m : Int) + 1 - 1) = (m : Int) := by rw [show (m : Int) + 1 - 1 = m from by omega]; exact IntWalk.i64_in _ (by omega)
  have hsum2 : IntKind.i64.wrap (m : Int) = (m : Int) := IntWalk.i64_in _ (by omega)
  go_wp2_with fail
  have G4d := Lib.hid (gl_drew G4.out)
  go_region_held3 (fun w' => w'.cell? ⟨b, o + m, none⟩ = some (.string l)) (first | exact hc4 | exact (hb5.cell (p := ⟨b, o + m, none⟩) hlt4).trans hc4) (first | (go_at_call 11; refine (last_val s _ G4d.out (by omega) _ HLA.out).mono ?_; rintro e w5 ⟨rfl, hb5⟩))
  have G5 := Lib.hid (G4d.out.below hb5)
  have B5 := Lib.hid (B4.out.drew.trans (hb5.mono B4.out.size))
  clear hb5 hsum hsum2
  go_wp2_with fail
  refine (parent_val s _ G5.out (by omega) _ HPA.out).mono ?_
  rintro e w6 ⟨rfl, hb6⟩
  have G6 := Lib.hid (G5.out.below hb6)
  have B6 := Lib.hid (B5.out.trans (hb6.mono B5.out.size))
  clear hb6
  rcases HSH.out with ⟨rfl, rfl⟩ | ⟨hok, hjs, hne, hu1, hu2, hp40, hl40⟩
  · go_wp2_with fail
    refine (under_is s s _ G6.out (by omega) (by omega) _ HU.out).mono ?_
    rintro e w7 ⟨rfl, hb7⟩
    go_wp2_with fail
    go_ret
    exact ⟨rfl, B6.out.trans (hb7.mono B6.out.size)⟩
  · have hpe : p.toList.isEmpty = false := by
      rw [ByteArray.toList_eq]
      cases hh : p.data.toList with
      | nil => exact absurd hh hne
      | cons _ _ => rfl
    have HOK := Lib.hid hok
    have HJS := Lib.hid hjs
    have HU1 := Lib.hid hu1
    have HU2 := Lib.hid hu2
    clear hok hjs hne hu1 hu2
    go_wp2_with fail
    refine (parent_val s _ G6.out (by omega) _ HPA.out).mono ?_
    rintro e w7 ⟨rfl, hb7⟩
    have G7 := Lib.hid (G6.out.below hb7)
    have B7 := Lib.hid (B6.out.trans (hb7.mono B6.out.size))
    clear hb7
    go_wp2_with fail
    refine (last_val s _ G7.out (by omega) _ HLA.out).mono ?_
    rintro e w8 ⟨rfl, hb8⟩
    have G8 := Lib.hid (G7.out.below hb8)
    have B8 := Lib.hid (B7.out.trans (hb8.mono B7.out.size))
    clear hb8
    go_wp2_with fail
    refine (join_lit w8 G8.out [p, l] _ 2 s true rfl rfl (by omega) (fun x hx => by simp at hx; rcases hx with rfl | rfl <;> omega) HJS.out HOK.out).mono ?_
    rintro e w9 ⟨rfl, hb9⟩
    have G9 := Lib.hid (G8.out.below hb9)
    have B9 := Lib.hid (B8.out.trans (hb9.mono B8.out.size))
    clear hb9
    go_wp2_with fail
    refine (parent_val s _ G9.out (by omega) _ HPA.out).mono ?_
    rintro e w10 ⟨rfl, hb10⟩
    have G10 := Lib.hid (G9.out.below hb10)
    have B10 := Lib.hid (B9.out.trans (hb10.mono B9.out.size))
    clear hb10
    go_wp2_with fail
    refine (under_is s p _ G10.out (by omega) (by omega) _ HU1.out).mono ?_
    rintro e w11 ⟨rfl, hb11⟩
    have G11 := Lib.hid (G10.out.below hb11)
    have B11 := Lib.hid (B10.out.trans (hb11.mono B10.out.size))
    clear hb11
    go_wp2_with fail
    refine (parent_val s _ G11.out (by omega) _ HPA.out).mono ?_
    rintro e w12 ⟨rfl, hb12⟩
    have G12 := Lib.hid (G11.out.below hb12)
    have B12 := Lib.hid (B11.out.trans (hb12.mono B11.out.size))
    clear hb12
    go_wp2_with fail
    refine (under_is p s _ G12.out (by omega) (by omega) _ HU2.out).mono ?_
    rintro e w13 ⟨rfl, hb13⟩
    go_wp2_with fail
    go_ret
    exact ⟨rfl, B12.out.trans (hb13.mono B12.out.size)⟩

theorem nameParts_any (s : ByteArray) (w : World) (g : Gl w) :
    Calls Tryd.prog 3 #[.string s] w (Ret w (.bool true)) := by
  by_cases h : s.size ≤ 400
  · cases hr : Nm.rightB s
    · exact nameParts_no s w g h hr
    · exact nameParts_name s w g h hr
  · exact nameParts_long s w g h
end Go.Proofs.YtnknaecfjkiibaaDoor
