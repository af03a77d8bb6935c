/-
  Plain facts and contracts that the law's proof stands on, joined.
  Conditions: each fact's own.
-/
import Derived.Test.YteomfakbbcpckaaGreatDoorJ04
import Derived.IntWalk
import Derived.Test.YteomfakbbcpckaaGreatDoorJ02
namespace Go.Proofs.YteomfakbbcpckaaGreatDoor
open Go.RowKit
open Lvl
namespace Trm
set_option maxRecDepth 100000 in
set_option maxHeartbeats 2000000 in
theorem binds_is (k n : Int) (m : ByteArray) (l : Value) (A : Option Addr) (len cap i : Nat) (w : World) (hl : len ≤ 140737488355328) (la : Option Addr) (ll lc : Nat) (el : l = .slice la ll lc) :
  Calls Tryz.prog 131 #[.agg #[.int .i64 k, .int .i64 n, .string m, l, .slice A len cap], .int .i64 i] w (Ret w (.int .i64 (bndP k len i : Nat))) := by
 subst el
 have HB := Lib.hid (below_lit w (tbox k n m (.slice la ll lc) (.slice A len cap)))
 have HV : Hid (∀ r : Nat, ((k = 5 ∨ k = 6 ∨ k = 7) ∧ i + 1 = len → r = 1) → (¬ ((k = 5 ∨ k = 6 ∨ k = 7) ∧ i + 1 = len) → r = 0) → bndP k len i = r) := by
  have : ∀ r : Nat, ((k = 5 ∨ k = 6 ∨ k = 7) ∧ i + 1 = len → r = 1) → (¬ ((k = 5 ∨ k = 6 ∨ k = 7) ∧ i + 1 = len) → r = 0) → bndP k len i = r := by
   intro r h1 h2
   unfold bndP
   split
   ·exact (h1 ‹_›).symm
   ·exact (h2 ‹_›).symm
  exact this
 generalize bndP k len i = R at *
 have hw : IntKind.i64.wrap ((len : Int) - 1) = (len : Int) - 1 := IntWalk.i64_in _ ⟨by omega, by omega⟩
 by_cases h5 : k = 5
 ·subst h5
  by_cases hi2 : i + 1 = len
  ·have hq : ((i : Int) == (len : Int) - 1) = true := by simp; omega
   obtain rfl : R = 1 := HV.out 1 (fun _ => rfl) (fun h => absurd ⟨.inl rfl, hi2⟩ h)
   clear HV hi2
   go_enter Tryz.func131, Tryz.ntmps131
   go_wp2_with fail
   go_ret
   exact ⟨rfl, HB.out⟩
  ·have hq : ((i : Int) == (len : Int) - 1) = false := by simp; omega
   obtain rfl : R = 0 := HV.out 0 (fun h => absurd h.2 hi2) (fun _ => rfl)
   clear HV hi2
   go_enter Tryz.func131, Tryz.ntmps131
   go_wp2_with fail
   go_ret
   exact ⟨rfl, HB.out⟩
 ·by_cases h6 : k = 6
  ·subst h6
   by_cases hi2 : i + 1 = len
   ·have hq : ((i : Int) == (len : Int) - 1) = true := by simp; omega
    obtain rfl : R = 1 := HV.out 1 (fun _ => rfl) (fun h => absurd ⟨.inr (.inl rfl), hi2⟩ h)
    clear HV hi2
    go_enter Tryz.func131, Tryz.ntmps131
    go_wp2_with fail
    go_ret
    exact ⟨rfl, HB.out⟩
   ·have hq : ((i : Int) == (len : Int) - 1) = false := by simp; omega
    obtain rfl : R = 0 := HV.out 0 (fun h => absurd h.2 hi2) (fun _ => rfl)
    clear HV hi2
    go_enter Tryz.func131, Tryz.ntmps131
    go_wp2_with fail
    go_ret
    exact ⟨rfl, HB.out⟩
  ·by_cases h7 : k = 7
   ·subst h7
    by_cases hi2 : i + 1 = len
    ·have hq : ((i : Int) == (len : Int) - 1) = true := by simp; omega
     obtain rfl : R = 1 := HV.out 1 (fun _ => rfl) (fun h => absurd ⟨.inr (.inr rfl), hi2⟩ h)
     clear HV hi2
     go_enter Tryz.func131, Tryz.ntmps131
     go_wp2_with fail
     go_ret
     exact ⟨rfl, HB.out⟩
    ·have hq : ((i : Int) == (len : Int) - 1) = false := by simp; omega
     obtain rfl : R = 0 := HV.out 0 (fun h => absurd h.2 hi2) (fun _ => rfl)
     clear HV hi2
     go_enter Tryz.func131, Tryz.ntmps131
     go_wp2_with fail
     go_ret
     exact ⟨rfl, HB.out⟩
   ·obtain rfl : R = 0 := HV.out 0 (fun h => absurd h.1 (by omega)) (fun _ => rfl)
    have d5 : (k == 5) = false := by simp; omega
    have d6 : (k == 6) = false := by simp; omega
    have d7 : (k == 7) = false := by simp; omega
    clear HV
    go_enter Tryz.func131, Tryz.ntmps131
    go_wp2_with fail
    go_ret
    exact ⟨rfl, HB.out⟩
end Trm
end Go.Proofs.YteomfakbbcpckaaGreatDoor
namespace Go.Proofs.YteomfakbbcpckaaGreatDoor
open Go.RowKit
open Lvl
namespace Trm
set_option maxRecDepth 100000 in
set_option maxHeartbeats 2000000 in
theorem countLevels_up : ∀ (N : Nat) (ls : List Lv) (s : Value) (w : World) (most : Int) (M deep : Nat), nodesL ls ≤ N → N ≤ deep → deep ≤ 1000000 → M ≤ 1000000000 → most = (M : Int) - 1 → LvS w (.mk 0 0 ls) s →
  Calls Tryz.prog 142 #[s, .int .i64 most, .int .i64 deep] w (Ret w (.int .i64 (min (nodesL ls) M : Nat))) := by
 intro N
 induction N with
 | zero =>
  intro ls s w most M deep h _ _ _ _ hs
  obtain rfl : ls = [] := by
   cases ls with
   | nil => rfl
   | cons a l => rw [nodesL] at h; have := nodes_pos a; omega
  rw [LvS] at hs
  obtain ⟨A, len, cap, rfl, h1, h2, h2b, h3, h4⟩ := hs
  rw [List.length_nil] at h1
  subst h1
  have HR := Lib.hid (show min (nodesL []) M = 0 by rw [nodesL]; omega)
  rw [HR.out]
  clear h4 h2 h3
  have hln : decide ((0 : Int) < (0 : Int)) = false := by simp
  go_enter Tryz.func142, Tryz.ntmps142
  go_wp2_with fail
  go_loopw [7, 12] (fun c i wr => c = .int .i64 0 ∧ i = .int .i64 0 ∧ wr = w) (fun _ _ _ => 0)
  case atStart => exact ⟨rfl, rfl, rfl⟩
  case round =>
   obtain ⟨rfl, rfl, rfl⟩ := hrel
   go_wp2_with fail
   go_ret
   exact ⟨rfl, Below.refl _ _⟩
 | succ N ih =>
 intro ls s w most M deep hN hdeep hd40 hM hm hs
 rw [LvS] at hs
 obtain ⟨A, len, cap, rfl, h1, h2, h2b, h3, h4⟩ := hs
 have IH := Lib.hid ih
 have HS := Lib.hid h4
 have HN := Lib.hid h1
 have HNN := Lib.hid hN
 obtain ⟨R, hR⟩ : ∃ R, min (nodesL ls) M = R := ⟨_, rfl⟩
 have HR := Lib.hid hR
 rw [hR]
 have HMM := Lib.hid hm
 have HM1 : Hid (most + 1 = (M : Int)) := by
  have : most + 1 = (M : Int) := by omega
  exact this
 clear h4 h1 h3 hN hR ih
 have hdz : ((deep : Int) == 0) = false := by simp; omega
 have hds : (deep : Int) - 1 = ((deep - 1 : Nat) : Int) := by omega
 have hml : -1 ≤ most := by omega
 have hmu : most ≤ 1000000000 := by omega
 clear hm
 go_enter Tryz.func142, Tryz.ntmps142
 go_wp2_with fail
 go_loopw [7, 12] (fun c i wr => ∃ j acc : Nat, j ≤ len ∧ i = .int .i64 j ∧ c = .int .i64 acc ∧ Hid (acc = min (nodesL (ls.take j)) M) ∧ acc ≤ M ∧ Below w.heap.size w wr) (fun _ i _ => len - (intOf i).toNat)
 case atStart => exact ⟨0, 0, Nat.zero_le _, rfl, rfl, by have : 0 = min (nodesL (ls.take 0)) M := (by simp [nodesL]); exact this, by omega, Below.refl _ _⟩
 case round =>
  obtain ⟨j, acc, hj, rfl, rfl, hc, ha, hb⟩ := hrel
  have HBW := Lib.hid hb
  have HSW := Lib.hid (lsV_below hb _ _ _ HS.out)
  clear hb
  by_cases hlt : j < len
  ·have hx1 : j < ls.length := by rw [HN.out]; exact hlt
   have hln : decide ((j : Int) < (len : Int)) = true := by simp; omega
   obtain ⟨b, o, s, rfl, hb, hc0, hc1, hc2, hls⟩ := lsV_get HSW.out j hx1
   have hrow := hls
   obtain ⟨sa, sl, sc, rfl⟩ := lvS_slice hls
   have HNT := Lib.hid (nodesL_take hx1)
   have HNL := Lib.hid (nodesL_le ls (j + 1))
   have HNL0 := Lib.hid (nodesL_le ls j)
   have hpos : Hid (1 ≤ nodes ls[j]) := nodes_pos _
   have HLA : Hid (LvS wr (.mk 0 0 (argsOf ls[j])) (.slice sa sl sc)) := by
    have : LvS wr (.mk 0 0 (argsOf ls[j])) (.slice sa sl sc) := by
     generalize ls[j] = q at hls ⊢
     cases q with
     | mk k n ts => rw [LvS] at hls ⊢; exact hls
    exact this
   have HNA : Hid (nodes ls[j] = 1 + nodesL (argsOf ls[j])) := by
    have : nodes ls[j] = 1 + nodesL (argsOf ls[j]) := by
     generalize ls[j] = q
     cases q with
     | mk k n ts => rw [nodes]
    exact this
   generalize kindOf ls[j] = ki at *
   generalize numOf ls[j] = nu at *
   generalize argsOf ls[j] = ta at *
   generalize nodes ls[j] = nq at *
   clear hls hrow
   by_cases hmo : acc < M
   ·have hd : decide (most < (acc : Int)) = false := by have := HMM.out; simp; omega
    have HH : Hid (most - ((acc : Int) + 1) = ((M - (acc + 1) : Nat) : Int) - 1) := by
     have := HMM.out
     have : most - ((acc : Int) + 1) = ((M - (acc + 1) : Nat) : Int) - 1 := by omega
     exact this
    have HTN : Hid (nodesL ta ≤ N) := by
     have q1 := HNA.out
     have q2 := HNT.out
     have q3 := HNL.out
     have q4 := HNN.out
     have : nodesL ta ≤ N := by omega
     exact this
    go_wp2_with fail
    have hbl := below_lit wr (.cells #[.int .i64 ki, .int .i64 nu, .slice sa sl sc] 48)
    have HBL := Lib.hid hbl
    have hHL := lvS_below hbl _ _ HLA.out
    generalize wr.alloc (.cells #[.int .i64 ki, .int .i64 nu, .slice sa sl sc] 48) = W1 at *
    clear hbl
    refine (IH.out ta _ W1 (most - ((acc : Int) + 1)) (M - (acc + 1)) (deep - 1) HTN.out (by omega) (by omega) (by omega) HH.out hHL).mono ?_
    rintro e w2 ⟨rfl, hb2⟩
    obtain ⟨q, hq⟩ : ∃ q, min (nodesL ta) (M - (acc + 1)) = q := ⟨_, rfl⟩
    have HC2 : Hid (acc + 1 + q = min (nodesL (ls.take (j + 1))) M) := by
     have h1 := hc.out
     have : acc + 1 + q = min (nodesL (ls.take (j + 1))) M := by
      rw [HNT.out, HNA.out, ← hq]
      omega
     exact this
    have HBW2 := Lib.hid (HBW.out.trans ((HBL.out.trans (hb2.mono HBL.out.size)).mono HBW.out.size))
    rw [hq]
    clear hb2 HNT HLA hHL HH HTN
    go_wp2_with fail
    go_roundw
    case rel => exact ⟨j + 1, acc + 1 + q, by omega, by go_num, by go_num, HC2, by omega, HBW2.out⟩
    case measure => simp [intOf]; omega
   ·have hd : decide (most < (acc : Int)) = true := by have := HMM.out; simp; omega
    have HF : Hid (R = M) := by
     have h1 := hc.out
     have h2 := HNL0.out
     have h3 := HR.out
     have : R = M := by omega
     exact this
    go_wp2_with fail
    go_ret
    exact ⟨by rw [HF.out]; exact congrArg _ (congrArg (Value.int .i64) HM1.out), HBW.out.trans ((below_lit wr _).mono HBW.out.size)⟩
  ·have hln : decide ((j : Int) < (len : Int)) = false := by simp; omega
   have HF : Hid (R = acc) := by
    have h1 := hc.out
    rw [List.take_of_length_le (by rw [HN.out]; omega)] at h1
    have h3 := HR.out
    have : R = acc := by omega
    exact this
   go_wp2_with fail
   go_ret
   exact ⟨by rw [HF.out]; rfl, HBW.out⟩
end Trm
end Go.Proofs.YteomfakbbcpckaaGreatDoor
namespace Go.Proofs.YteomfakbbcpckaaGreatDoor
open Go.RowKit
open Lvl
open Trm
namespace Bnd
set_option maxRecDepth 100000 in
set_option maxHeartbeats 2000000 in
theorem bbinds_is (k n : Int) (m : ByteArray) (l : Value) (A : Option Addr) (len cap i : Nat) (w : World) (hl : len ≤ 140737488355328) (la : Option Addr) (ll lc : Nat) (el : l = .slice la ll lc) :
  Calls Tryz.prog 97 #[.agg #[.int .i64 k, .int .i64 n, .string m, l, .slice A len cap], .int .i64 i] w (Ret w (.int .i64 (bndP k len i : Nat))) := by
 subst el
 have HB := Lib.hid (below_lit w (tbox k n m (.slice la ll lc) (.slice A len cap)))
 have HV : Hid (∀ r : Nat, ((k = 5 ∨ k = 6 ∨ k = 7) ∧ i + 1 = len → r = 1) → (¬ ((k = 5 ∨ k = 6 ∨ k = 7) ∧ i + 1 = len) → r = 0) → bndP k len i = r) := by
  have : ∀ r : Nat, ((k = 5 ∨ k = 6 ∨ k = 7) ∧ i + 1 = len → r = 1) → (¬ ((k = 5 ∨ k = 6 ∨ k = 7) ∧ i + 1 = len) → r = 0) → bndP k len i = r := by
   intro r h1 h2
   unfold bndP
   split
   ·exact (h1 ‹_›).symm
   ·exact (h2 ‹_›).symm
  exact this
 generalize bndP k len i = R at *
 have hw : IntKind.i64.wrap ((len : Int) - 1) = (len : Int) - 1 := IntWalk.i64_in _ ⟨by omega, by omega⟩
 by_cases h5 : k = 5
 ·subst h5
  by_cases hi2 : i + 1 = len
  ·have hq : ((i : Int) == (len : Int) - 1) = true := by simp; omega
   obtain rfl : R = 1 := HV.out 1 (fun _ => rfl) (fun h => absurd ⟨.inl rfl, hi2⟩ h)
   clear HV hi2
   go_enter Tryz.func97, Tryz.ntmps97
   go_wp2_with fail
   go_ret
   exact ⟨rfl, HB.out⟩
  ·have hq : ((i : Int) == (len : Int) - 1) = false := by simp; omega
   obtain rfl : R = 0 := HV.out 0 (fun h => absurd h.2 hi2) (fun _ => rfl)
   clear HV hi2
   go_enter Tryz.func97, Tryz.ntmps97
   go_wp2_with fail
   go_ret
   exact ⟨rfl, HB.out⟩
 ·by_cases h6 : k = 6
  ·subst h6
   by_cases hi2 : i + 1 = len
   ·have hq : ((i : Int) == (len : Int) - 1) = true := by simp; omega
    obtain rfl : R = 1 := HV.out 1 (fun _ => rfl) (fun h => absurd ⟨.inr (.inl rfl), hi2⟩ h)
    clear HV hi2
    go_enter Tryz.func97, Tryz.ntmps97
    go_wp2_with fail
    go_ret
    exact ⟨rfl, HB.out⟩
   ·have hq : ((i : Int) == (len : Int) - 1) = false := by simp; omega
    obtain rfl : R = 0 := HV.out 0 (fun h => absurd h.2 hi2) (fun _ => rfl)
    clear HV hi2
    go_enter Tryz.func97, Tryz.ntmps97
    go_wp2_with fail
    go_ret
    exact ⟨rfl, HB.out⟩
  ·by_cases h7 : k = 7
   ·subst h7
    by_cases hi2 : i + 1 = len
    ·have hq : ((i : Int) == (len : Int) - 1) = true := by simp; omega
     obtain rfl : R = 1 := HV.out 1 (fun _ => rfl) (fun h => absurd ⟨.inr (.inr rfl), hi2⟩ h)
     clear HV hi2
     go_enter Tryz.func97, Tryz.ntmps97
     go_wp2_with fail
     go_ret
     exact ⟨rfl, HB.out⟩
    ·have hq : ((i : Int) == (len : Int) - 1) = false := by simp; omega
     obtain rfl : R = 0 := HV.out 0 (fun h => absurd h.2 hi2) (fun _ => rfl)
     clear HV hi2
     go_enter Tryz.func97, Tryz.ntmps97
     go_wp2_with fail
     go_ret
     exact ⟨rfl, HB.out⟩
   ·obtain rfl : R = 0 := HV.out 0 (fun h => absurd h.1 (by omega)) (fun _ => rfl)
    have d5 : (k == 5) = false := by simp; omega
    have d6 : (k == 6) = false := by simp; omega
    have d7 : (k == 7) = false := by simp; omega
    clear HV
    go_enter Tryz.func97, Tryz.ntmps97
    go_wp2_with fail
    go_ret
    exact ⟨rfl, HB.out⟩
end Bnd
end Go.Proofs.YteomfakbbcpckaaGreatDoor
namespace Go.Proofs.YteomfakbbcpckaaGreatDoor
open Go.RowKit
open Lvl
namespace Trm
set_option maxRecDepth 100000 in
set_option maxHeartbeats 2000000 in
theorem countLevels_free : ∀ (N : Nat) (ls : List Lv) (s : Value) (w : World) (most : Int) (M deep : Nat), nodesL ls ≤ N → M < deep → deep ≤ 1000000 → M ≤ 1000000000 → most = (M : Int) - 1 → LvS w (.mk 0 0 ls) s →
  Calls Tryz.prog 142 #[s, .int .i64 most, .int .i64 deep] w (Ret w (.int .i64 (min (nodesL ls) M : Nat))) := by
 intro N
 induction N with
 | zero =>
  intro ls s w most M deep h _ _ _ _ hs
  obtain rfl : ls = [] := by
   cases ls with
   | nil => rfl
   | cons a l => rw [nodesL] at h; have := nodes_pos a; omega
  rw [LvS] at hs
  obtain ⟨A, len, cap, rfl, h1, h2, h2b, h3, h4⟩ := hs
  rw [List.length_nil] at h1
  subst h1
  have HR := Lib.hid (show min (nodesL []) M = 0 by rw [nodesL]; omega)
  rw [HR.out]
  clear h4 h2 h3
  have hln : decide ((0 : Int) < (0 : Int)) = false := by simp
  go_enter Tryz.func142, Tryz.ntmps142
  go_wp2_with fail
  go_loopw [7, 12] (fun c i wr => c = .int .i64 0 ∧ i = .int .i64 0 ∧ wr = w) (fun _ _ _ => 0)
  case atStart => exact ⟨rfl, rfl, rfl⟩
  case round =>
   obtain ⟨rfl, rfl, rfl⟩ := hrel
   go_wp2_with fail
   go_ret
   exact ⟨rfl, Below.refl _ _⟩
 | succ N ih =>
 intro ls s w most M deep hN hdeep hd40 hM hm hs
 rw [LvS] at hs
 obtain ⟨A, len, cap, rfl, h1, h2, h2b, h3, h4⟩ := hs
 have IH := Lib.hid ih
 have HS := Lib.hid h4
 have HN := Lib.hid h1
 have HNN := Lib.hid hN
 obtain ⟨R, hR⟩ : ∃ R, min (nodesL ls) M = R := ⟨_, rfl⟩
 have HR := Lib.hid hR
 rw [hR]
 have HMM := Lib.hid hm
 have HM1 : Hid (most + 1 = (M : Int)) := by
  have : most + 1 = (M : Int) := by omega
  exact this
 clear h4 h1 h3 hN hR ih
 have hdz : ((deep : Int) == 0) = false := by simp; omega
 have hds : (deep : Int) - 1 = ((deep - 1 : Nat) : Int) := by omega
 have hml : -1 ≤ most := by omega
 have hmu : most ≤ 1000000000 := by omega
 clear hm
 go_enter Tryz.func142, Tryz.ntmps142
 go_wp2_with fail
 go_loopw [7, 12] (fun c i wr => ∃ j acc : Nat, j ≤ len ∧ i = .int .i64 j ∧ c = .int .i64 acc ∧ Hid (acc = min (nodesL (ls.take j)) M) ∧ acc ≤ M ∧ Below w.heap.size w wr) (fun _ i _ => len - (intOf i).toNat)
 case atStart => exact ⟨0, 0, Nat.zero_le _, rfl, rfl, by have : 0 = min (nodesL (ls.take 0)) M := (by simp [nodesL]); exact this, by omega, Below.refl _ _⟩
 case round =>
  obtain ⟨j, acc, hj, rfl, rfl, hc, ha, hb⟩ := hrel
  have HBW := Lib.hid hb
  have HSW := Lib.hid (lsV_below hb _ _ _ HS.out)
  clear hb
  by_cases hlt : j < len
  ·have hx1 : j < ls.length := by rw [HN.out]; exact hlt
   have hln : decide ((j : Int) < (len : Int)) = true := by simp; omega
   obtain ⟨b, o, s, rfl, hb, hc0, hc1, hc2, hls⟩ := lsV_get HSW.out j hx1
   have hrow := hls
   obtain ⟨sa, sl, sc, rfl⟩ := lvS_slice hls
   have HNT := Lib.hid (nodesL_take hx1)
   have HNL := Lib.hid (nodesL_le ls (j + 1))
   have HNL0 := Lib.hid (nodesL_le ls j)
   have hpos : Hid (1 ≤ nodes ls[j]) := nodes_pos _
   have HLA : Hid (LvS wr (.mk 0 0 (argsOf ls[j])) (.slice sa sl sc)) := by
    have : LvS wr (.mk 0 0 (argsOf ls[j])) (.slice sa sl sc) := by
     generalize ls[j] = q at hls ⊢
     cases q with
     | mk k n ts => rw [LvS] at hls ⊢; exact hls
    exact this
   have HNA : Hid (nodes ls[j] = 1 + nodesL (argsOf ls[j])) := by
    have : nodes ls[j] = 1 + nodesL (argsOf ls[j]) := by
     generalize ls[j] = q
     cases q with
     | mk k n ts => rw [nodes]
    exact this
   generalize kindOf ls[j] = ki at *
   generalize numOf ls[j] = nu at *
   generalize argsOf ls[j] = ta at *
   generalize nodes ls[j] = nq at *
   clear hls hrow
   by_cases hmo : acc < M
   ·have hd : decide (most < (acc : Int)) = false := by have := HMM.out; simp; omega
    have HH : Hid (most - ((acc : Int) + 1) = ((M - (acc + 1) : Nat) : Int) - 1) := by
     have := HMM.out
     have : most - ((acc : Int) + 1) = ((M - (acc + 1) : Nat) : Int) - 1 := by omega
     exact this
    have HTN : Hid (nodesL ta ≤ N) := by
     have q1 := HNA.out
     have q2 := HNT.out
     have q3 := HNL.out
     have q4 := HNN.out
     have : nodesL ta ≤ N := by omega
     exact this
    go_wp2_with fail
    have hbl := below_lit wr (.cells #[.int .i64 ki, .int .i64 nu, .slice sa sl sc] 48)
    have HBL := Lib.hid hbl
    have hHL := lvS_below hbl _ _ HLA.out
    generalize wr.alloc (.cells #[.int .i64 ki, .int .i64 nu, .slice sa sl sc] 48) = W1 at *
    clear hbl
    refine (IH.out ta _ W1 (most - ((acc : Int) + 1)) (M - (acc + 1)) (deep - 1) HTN.out (by omega) (by omega) (by omega) HH.out hHL).mono ?_
    rintro e w2 ⟨rfl, hb2⟩
    obtain ⟨q, hq⟩ : ∃ q, min (nodesL ta) (M - (acc + 1)) = q := ⟨_, rfl⟩
    have HC2 : Hid (acc + 1 + q = min (nodesL (ls.take (j + 1))) M) := by
     have h1 := hc.out
     have : acc + 1 + q = min (nodesL (ls.take (j + 1))) M := by
      rw [HNT.out, HNA.out, ← hq]
      omega
     exact this
    have HBW2 := Lib.hid (HBW.out.trans ((HBL.out.trans (hb2.mono HBL.out.size)).mono HBW.out.size))
    rw [hq]
    clear hb2 HNT HLA hHL HH HTN
    go_wp2_with fail
    go_roundw
    case rel => exact ⟨j + 1, acc + 1 + q, by omega, by go_num, by go_num, HC2, by omega, HBW2.out⟩
    case measure => simp [intOf]; omega
   ·have hd : decide (most < (acc : Int)) = true := by have := HMM.out; simp; omega
    have HF : Hid (R = M) := by
     have h1 := hc.out
     have h2 := HNL0.out
     have h3 := HR.out
     have : R = M := by omega
     exact this
    go_wp2_with fail
    go_ret
    exact ⟨by rw [HF.out]; exact congrArg _ (congrArg (Value.int .i64) HM1.out), HBW.out.trans ((below_lit wr _).mono HBW.out.size)⟩
  ·have hln : decide ((j : Int) < (len : Int)) = false := by simp; omega
   have HF : Hid (R = acc) := by
    have h1 := hc.out
    rw [List.take_of_length_le (by rw [HN.out]; omega)] at h1
    have h3 := HR.out
    have : R = acc := by omega
    exact this
   go_wp2_with fail
   go_ret
   exact ⟨by rw [HF.out]; rfl, HBW.out⟩
end Trm
end Go.Proofs.YteomfakbbcpckaaGreatDoor
