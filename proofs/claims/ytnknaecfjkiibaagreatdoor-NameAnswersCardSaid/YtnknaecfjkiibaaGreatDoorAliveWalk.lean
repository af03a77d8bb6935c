/-
  The contract of the statements' own function alive, walked: it returns true.
  Conditions: as in the contracts of Right ('Gl').
-/
import Derived.Test.YtnknaecfjkiibaaGreatDoorAlive
namespace Go.Proofs.YtnknaecfjkiibaaGreatDoor
open Go.RowKit

theorem small_of {xs : List ByteArray} (h : xs.all (fun x => decide (x.size ≤ 1000)) = true) : ∀ x ∈ xs, x.size ≤ 140737488355328 := fun x hx => by
  have := of_decide_eq_true (List.all_eq_true.1 h x hx)
  omega
/-- A list that the caller has just laid. -/
theorem txt_lit (w : World) (xs : List ByteArray) (O : Array Value) (hO : (xs.map Value.string).toArray = O) : Txt (w.alloc (.cells O 9)) (some ⟨w.heap.size, 0, none⟩) xs := by
  subst hO; exact txt_new w xs
theorem below_lit (w : World) (O : Obj) : Below w.heap.size w (w.alloc O) := (Below.refl _ _).alloc (Nat.le_refl _) _
theorem gl_lit {w : World} (g : Gl w) (O : Obj) : Gl (w.alloc O) := g.below (below_lit w O)
theorem below_from {w w' : World} {O : Obj} (h : Below (w.alloc O).heap.size (w.alloc O) w') : Below w.heap.size w w' := (below_lit w O).trans (h.mono (below_lit w O).size)

theorem join_lit (w : World) (g : Gl w) (xs : List ByteArray) (O : Array Value) (n : Nat) (r : ByteArray) (b : Bool) (hO : (xs.map Value.string).toArray = O) (hn : xs.length = n) (hn' : n ≤ 140737488355328) (hs : ∀ x ∈ xs, x.size ≤ 140737488355328) (hr : joinS xs = r) (hb : joinOk xs = b) :
    Calls Tryz.prog 7 #[.slice (some ⟨w.heap.size, 0, none⟩) n n] (w.alloc (.cells O 9)) (Ret w (.tuple #[.string r, .bool b])) := by
  subst hr; subst hb
  exact (join_any _ n n xs _ (gl_lit g _) (txt_lit w xs O hO) hn hn' (Nat.le_refl _) hs).mono fun e w' ⟨he, hw⟩ => ⟨he, below_from hw⟩
theorem same_lit (w : World) (xs ys : List ByteArray) (A : Option Addr) (n c m : Nat) (O : Array Value) (b : Bool) (hA : Txt w A xs) (hxn : xs.length = n) (hO : (ys.map Value.string).toArray = O) (hn : ys.length = m) (hl : xs.length ≤ 140737488355328) (hb : decide (xs = ys) = b) :
    Calls Tryz.prog 11 #[.slice A n c, .slice (some ⟨w.heap.size, 0, none⟩) m m] (w.alloc (.cells O 9)) (Ret w (.bool b)) := by
  subst hb; subst hn; subst hxn
  exact (sameTexts_any A _ c _ xs ys _ (hA.below (below_lit w _)) (txt_lit w ys O hO) hl).mono fun e w' ⟨he, q, hw⟩ => ⟨he, by subst hw; exact (below_lit w _).trans ((quietBelow _ q).mono (below_lit w _).size)⟩
theorem fresh_lit (w : World) (g : Gl w) :
    Calls Tryz.prog 20 #[.string ⟨#[120]⟩, .slice (some ⟨w.heap.size, 0, none⟩) 2 2] (w.alloc (.cells #[.string ⟨#[120]⟩, .string ⟨#[120, 95, 49]⟩] 9)) (Ret w (.string ⟨#[120, 95, 50]⟩)) :=
  (fresh_name sX _ 2 2 [sX, sX1] _ (gl_lit g _) r_x (txt_lit w [sX, sX1] _ rfl) rfl (by omega) (small_of (by decide +kernel))).mono fun e w' h => by
    obtain ⟨he, hb⟩ := fresh_x h
    exact ⟨he, below_from hb⟩
theorem sort_lit (w : World) :
    Calls Tryz.prog 22 #[.slice (some ⟨w.heap.size, 0, none⟩) 3 3] (w.alloc (.cells #[.string ⟨#[98]⟩, .string ⟨#[97]⟩, .string ⟨#[98]⟩] 9)) (SliceRet w [sA, sB]) :=
  (sort_any _ 3 3 [sB, sA, sB] _ (txt_lit w [sB, sA, sB] _ rfl) rfl (fun h => absurd h (by simp)) (by omega)).mono fun e w' ⟨A, n, c, he, h1, h2, h3, h4, h5⟩ => by
    rw [sorted_ba] at h1 h4
    exact ⟨A, n, c, he, h1, h2, h3, h4, below_from h5⟩
theorem parts_lit (w : World) (g : Gl w) : Calls Tryz.prog 12 #[.string ⟨#[110, 97, 116, 46, 97, 100, 100]⟩] w (SliceRet w [sNat, sAdd]) := by
  have h := parts_any sNatAdd w g (by decide)
  rwa [p_natadd] at h
theorem parent_lit (w : World) (g : Gl w) : Calls Tryz.prog 14 #[.string ⟨#[110, 97, 116, 46, 97, 100, 100]⟩] w (Ret w (.string ⟨#[110, 97, 116]⟩)) := by
  have h := parent_any sNatAdd w g (by decide)
  rwa [par_natadd] at h
theorem last_lit (w : World) (g : Gl w) : Calls Tryz.prog 16 #[.string ⟨#[110, 97, 116, 46, 97, 100, 100]⟩] w (Ret w (.string ⟨#[97, 100, 100]⟩)) := by
  have h := last_any sNatAdd w g (by decide)
  rwa [last_natadd] at h

set_option maxHeartbeats 4000000 in
set_option maxRecDepth 100000 in
theorem alive_any (w : World) (g : Gl w) : Calls Tryz.prog 4 #[] w (Ret w (.bool true)) := by
  have G := Lib.hid g
  clear g
  go_enter Tryz.func4, Tryz.ntmps4
  go_wp2_with fail
  refine (join_lit w G.out [sNat, sAdd] _ 2 sNatAdd true rfl rfl (by omega) (small_of (by decide +kernel)) s_join ok_join).mono ?_
  rintro e w1 ⟨rfl, hb1⟩
  have G1 := Lib.hid (G.out.below hb1)
  have B1 := Lib.hid hb1
  clear hb1
  unfold sNatAdd
  go_wp2_with fail
  refine (join_lit w1 G1.out [sNat, s3] _ 2 ⟨#[]⟩ false rfl rfl (by omega) (small_of (by decide +kernel)) (joinS_no ok_join3) ok_join3).mono ?_
  rintro e w2 ⟨rfl, hb2⟩
  have G2 := Lib.hid (G1.out.below hb2)
  have B2 := Lib.hid (B1.out.trans (hb2.mono B1.out.size))
  clear hb2 B1 G1
  go_wp2_with fail
  refine (parts_lit w2 G2.out).mono ?_
  rintro e w3 ⟨A, n, c, rfl, hn, _, _, hA, hb3⟩
  have G3 := Lib.hid (G2.out.below hb3)
  have B3 := Lib.hid (B2.out.trans (hb3.mono B2.out.size))
  have HA := Lib.hid hA
  have HN := Lib.hid hn
  clear hb3 B2 G2 hA hn
  go_wp2_with fail
  refine (same_lit w3 [sNat, sAdd] [sNat, sAdd] A n c 2 _ true HA.out HN.out rfl rfl (by simp) (by simp)).mono ?_
  rintro e w4 ⟨rfl, hb4⟩
  have G4 := Lib.hid (G3.out.below hb4)
  have B4 := Lib.hid (B3.out.trans (hb4.mono B3.out.size))
  clear hb4 B3 G3 HA HN
  go_wp2_with fail
  refine (parent_lit w4 G4.out).mono ?_
  rintro e w5 ⟨rfl, hb5⟩
  have G5 := Lib.hid (G4.out.below hb5)
  have B5 := Lib.hid (B4.out.trans (hb5.mono B4.out.size))
  clear hb5 B4 G4
  go_wp2_with fail
  refine (last_lit w5 G5.out).mono ?_
  rintro e w6 ⟨rfl, hb6⟩
  have G6 := Lib.hid (G5.out.below hb6)
  have B6 := Lib.hid (B5.out.trans (hb6.mono B5.out.size))
  clear hb6 B5 G5
  go_wp2_with fail
  refine (under_is sNatAdd sNat w6 G6.out (by decide) (by decide) true u_yes).mono ?_
  rintro e w7 ⟨rfl, hb7⟩
  have G7 := Lib.hid (G6.out.below hb7)
  have B7 := Lib.hid (B6.out.trans (hb7.mono B6.out.size))
  clear hb7 B6 G6
  go_wp2_with fail
  refine (under_is sNation sNat w7 G7.out (by decide) (by decide) false u_no).mono ?_
  rintro e w8 ⟨rfl, hb8⟩
  have G8 := Lib.hid (G7.out.below hb8)
  have B8 := Lib.hid (B7.out.trans (hb8.mono B7.out.size))
  clear hb8 B7 G7
  go_wp2_with fail
  refine (fresh_lit w8 G8.out).mono ?_
  rintro e w9 ⟨rfl, hb9⟩
  have G9 := Lib.hid (G8.out.below hb9)
  have B9 := Lib.hid (B8.out.trans (hb9.mono B8.out.size))
  clear hb9 B8 G8
  go_wp2_with fail
  refine (right_is sA1 w9 G9.out (by decide) true r_a1).mono ?_
  rintro e w10 ⟨rfl, hb10⟩
  have G10 := Lib.hid (G9.out.below hb10)
  have B10 := Lib.hid (B9.out.trans (hb10.mono B9.out.size))
  clear hb10 B9 G9
  go_wp2_with fail
  refine (right_is s1A w10 G10.out (by decide) false r_1a).mono ?_
  rintro e w11 ⟨rfl, hb11⟩
  have B11 := Lib.hid (B10.out.trans (hb11.mono B10.out.size))
  clear hb11 B10 G10
  go_wp2_with fail
  refine (sort_lit w11).mono ?_
  rintro e w12 ⟨A, n, c, rfl, hn, _, _, hA, hb12⟩
  have B12 := Lib.hid (B11.out.trans (hb12.mono B11.out.size))
  have HA := Lib.hid hA
  have HN := Lib.hid hn
  clear hb12 B11 hA hn
  go_wp2_with fail
  refine (same_lit w12 [sA, sB] [sA, sB] A n c 2 _ true HA.out HN.out rfl rfl (by simp) (by simp)).mono ?_
  rintro e w13 ⟨rfl, hb13⟩
  go_wp2_with fail
  go_ret
  exact ⟨rfl, B12.out.trans (hb13.mono B12.out.size)⟩
end Go.Proofs.YtnknaecfjkiibaaGreatDoor
