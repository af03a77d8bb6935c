/-
  Plain facts and contracts that the law's proof stands on, joined.
  Conditions: each fact's own.
-/
import Derived.Shelf.Spec.SlicesGrow
import Derived.Test.YteomfakbbcpckaaGreatDoorJ11
import Derived.Test.YteomfakbbcpckaaGreatDoorJ12
import Derived.Test.YteomfakbbcpckaaGreatDoorJ09
import Derived.Test.YteomfakbbcpckaaGreatDoorJ04
namespace Go.Proofs.YteomfakbbcpckaaGreatDoor
open Go.RowKit
open Lvl
namespace Trm
end Trm
end Go.Proofs.YteomfakbbcpckaaGreatDoor
namespace Go.Proofs.YteomfakbbcpckaaGreatDoor
open Go.RowKit
open Lvl
namespace Trm
def RestTo (g : Nat) (w : World) (arr : Array Value) (ts : List Tm) (j : Nat) : Prop :=
 ∀ i (h : i < ts.length), j ≤ i → ∃ l s, arr[i * 5]? = some (.int .i64 (tkOf ts[i])) ∧ arr[i * 5 + 1]? = some (.int .i64 (tnOf ts[i])) ∧ arr[i * 5 + 2]? = some (.string (tmOf ts[i])) ∧ arr[i * 5 + 3]? = some l ∧ arr[i * 5 + 4]? = some s ∧ TmP w (fun b => b ≠ g) ts[i] l s
end Trm
end Go.Proofs.YteomfakbbcpckaaGreatDoor
namespace Go.Proofs.YteomfakbbcpckaaGreatDoor
open Go.RowKit
open Lvl
namespace Trm
set_option maxRecDepth 100000 in
set_option maxHeartbeats 1000000 in
theorem great_is (t : Tm) (v : Value) (w : World) (hv : TmV w t v) (hn : nmOk t) (b : Bool) (hb : decide (2500 < rn t) = b) :
  Calls Tryz.prog 17 #[v] w (Ret w (.bool b)) := by
 obtain ⟨l, s, rfl, ht⟩ := hv
 obtain ⟨⟨la, ll, lc, rfl⟩, sa, sl, sc, rfl⟩ := tmP_slices ht
 have HV := Lib.hid (show TmV w t _ from ⟨_, _, rfl, ht⟩)
 have HN := Lib.hid hn
 obtain ⟨R, hR⟩ : ∃ R, min (rn t) (2500 + 1) = R := ⟨_, rfl⟩
 have HBB : Hid (decide ((2500 : Int) < (R : Int)) = b) := by
  have : decide ((2500 : Int) < (R : Int)) = b := by
   rw [← hb]
   by_cases h : 2500 < rn t
   ·rw [decide_eq_true h]; simp; omega
   ·rw [decide_eq_false h]; simp; omega
  exact this
 dsimp only [tv] at HV ⊢
 have HC := Lib.hid (fun (w' : World) (hw : Below w.heap.size w w') => rnodes_up 2500 (by omega) (tnodes t) t _ w' (Nat.le_refl _) HN.out (HV.out.below hw))
 rw [hR] at HC
 generalize tkOf t = k at *
 generalize tnOf t = n at *
 generalize tmOf t = m at *
 clear ht hn hb hR
 go_enter Tryz.func17, Tryz.ntmps17
 go_wp2_with fail
 have HB := Lib.hid (below_lit w (.cells #[.int .i64 k, .int .i64 n, .string m, .slice la ll lc, .slice sa sl sc] 25))
 generalize w.alloc (.cells #[.int .i64 k, .int .i64 n, .string m, .slice la ll lc, .slice sa sl sc] 25) = W at *
 refine (HC.out W HB.out).mono ?_
 rintro e w2 ⟨rfl, hb2⟩
 have HB2 := Lib.hid (HB.out.trans (hb2.mono HB.out.size))
 have hbb := HBB.out
 clear hb2
 go_wp2_with fail
 go_ret
 exact ⟨rfl, HB2.out⟩
end Trm
end Go.Proofs.YteomfakbbcpckaaGreatDoor
