/-
  The contract of the statements' own function alive: it returns true.
  Conditions: as in the contracts of Right ('Gl').
-/
import Derived.Test.YtnknaecfjkiibaaGreatDoorFresh
import Derived.Test.YtnknaecfjkiibaaGreatDoorOrd
namespace Go.Proofs.YtnknaecfjkiibaaGreatDoor
open Go.RowKit

def sNat : ByteArray := ⟨#[110, 97, 116]⟩
def sAdd : ByteArray := ⟨#[97, 100, 100]⟩
def sNatAdd : ByteArray := ⟨#[110, 97, 116, 46, 97, 100, 100]⟩
def s3 : ByteArray := ⟨#[51]⟩
def sNation : ByteArray := ⟨#[110, 97, 116, 105, 111, 110]⟩
def sX : ByteArray := ⟨#[120]⟩
def sX1 : ByteArray := ⟨#[120, 95, 49]⟩
def sX2 : ByteArray := ⟨#[120, 95, 50]⟩
def sA1 : ByteArray := ⟨#[97, 95, 49]⟩
def s1A : ByteArray := ⟨#[49, 97]⟩
def sA : ByteArray := ⟨#[97]⟩
def sB : ByteArray := ⟨#[98]⟩

theorem ok_join : joinOk [sNat, sAdd] = true := by decide +kernel
theorem s_join : joinS [sNat, sAdd] = sNatAdd := by
  rw [joinS_yes ok_join]; rfl
theorem ok_join3 : joinOk [sNat, s3] = false := by decide +kernel
theorem r_natadd : Nm.rightB sNatAdd = true := by decide +kernel
theorem r_nat : Nm.rightB sNat = true := by decide +kernel
theorem r_nation : Nm.rightB sNation = true := by decide +kernel
theorem r_a1 : Nm.rightB sA1 = true := by decide +kernel
theorem r_1a : Nm.rightB s1A = false := by decide +kernel
theorem r_x : Nm.rightB sX = true := by decide +kernel
theorem parts_eq {s : ByteArray} {l : List (List UInt8)} (h : Nm.spl s.data.toList = l) : Nm.parts s = l.map fun p => ⟨p.toArray⟩ := by
  rw [← h, ← Nm.parts_data, List.map_map]
  have : ((fun p : List UInt8 => (⟨p.toArray⟩ : ByteArray)) ∘ fun x : ByteArray => x.data.toList) = id := by
    funext x; exact Lib.mk_data x
  rw [this, List.map_id]
theorem p_natadd : partsOf sNatAdd = [sNat, sAdd] := by
  rw [partsOf_yes r_natadd, parts_eq (l := [[110, 97, 116], [97, 100, 100]]) (by decide +kernel)]; rfl
theorem d_natadd : dotI sNatAdd = (3 : Nat) := by decide +kernel
theorem par_natadd : parentOf sNatAdd = sNat := by
  rw [parentOf_dot r_natadd d_natadd]; decide +kernel
theorem last_natadd : lastOf sNatAdd = sAdd := by
  rw [lastOf_dot r_natadd d_natadd]; decide +kernel
theorem u_yes : underB sNatAdd sNat = true := by decide +kernel
theorem u_no : underB sNation sNat = false := by decide +kernel
theorem n_two : nameKB sX 2 = sX2 := by
  unfold nameKB
  have : Nm.nameK sX.data.toList 2 = [120, 95, 50] := by
    rw [nameK_succ, show Lib.decDigits (1 + 1) = [50] from by rw [Lib.decDigits, dif_pos (by omega)]; rfl]
    rfl
  rw [this]; rfl
theorem k_one : Nm.nameK sX.data.toList 1 = [120, 95, 49] := by
  rw [nameK_succ, show Lib.decDigits (0 + 1) = [49] from by rw [Lib.decDigits, dif_pos (by omega)]; rfl]
  rfl
theorem k_two : Nm.nameK sX.data.toList 2 = [120, 95, 50] := by
  rw [nameK_succ, show Lib.decDigits (1 + 1) = [50] from by rw [Lib.decDigits, dif_pos (by omega)]; rfl]
  rfl
theorem fresh_x {w w' : World} {e : Ending} (h : FreshRes w sX [sX, sX1] e w') : Ret w (.string sX2) e w' := by
  obtain ⟨⟨j, rfl, _, h1, h2⟩, hb⟩ := h
  have e0 : takenL [sX, sX1] = [[120], [120, 95, 49]] := rfl
  rw [e0] at h1 h2
  match j, h1, h2 with
  | 0, h1, _ => exact absurd (by decide +kernel : Nm.nameK sX.data.toList 0 ∈ [[120], [120, 95, 49]]) h1
  | 1, h1, _ => rw [k_one] at h1; exact absurd (by decide) h1
  | 2, _, _ => exact ⟨by rw [n_two], hb⟩
  | j + 3, _, h2 => have := h2 2 (by omega); rw [k_two] at this; exact absurd this (by decide)
theorem sorted_ba : sortedOf [sB, sA, sB] = [sA, sB] := by
  unfold sortedOf sortedL
  have h : ([sB, sA, sB].map (·.data.toList)).mergeSort Nm.leB = [[97], [98], [98]] :=
    Nm.sort_eq (by simp; decide) (List.Perm.swap _ _ _)
  rw [show (fun x y : List UInt8 => decide (x ≤ y)) = Nm.leB from rfl, h]
  decide +kernel
end Go.Proofs.YtnknaecfjkiibaaGreatDoor
