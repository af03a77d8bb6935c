/-
  Plain facts and contracts that the law's proof stands on, joined.
  Conditions: each fact's own.
-/
import Derived.Test.YteomfakbbcpckaaGreatDoorJ19
import Derived.Lib.OwnBridge
import Derived.Sort.OwnSorted
import Derived.Laws.AppendOwnNone
import Derived.Lib.RowBridge
namespace Go.Proofs.YteomfakbbcpckaaGreatDoor
open Go.RowKit Go.Sort Go.Proofs
def sortedL (xs : List ByteArray) : List (List UInt8) := Lib.compact ((xs.map (·.data.toList)).mergeSort fun x y => decide (x ≤ y))
def sortedOf (xs : List ByteArray) : List ByteArray := (sortedL xs).map fun l => ⟨l.toArray⟩
theorem sortedOf_nil : sortedOf [] = [] := by
 unfold sortedOf sortedL
 simp [Lib.compact, Lib.compactUpTo]
theorem sort_end {w w1 : World} {g cap n nn q : Nat} {os : Array Obj} {xs : List ByteArray} (hown : w1.ownsRow w.heap.size 9 1 (.slice (some ⟨g, 0, none⟩) n cap) n ((xs.map (·.data.toList)).map encStr)) (hbel : Below w.heap.size w w1) (hbg : w.heap.size ≤ g) (hlen : xs.length = n) :
  SliceRet w (sortedOf xs) (.returned (.slice (some ⟨g, 0, none⟩) (sortedL xs).length cap))
   (putRow encStr (Sort.ahead (grow (putRow encStr (Sort.ahead w1 nn) g 0 ((xs.map (·.data.toList)).mergeSort fun x y => decide (x ≤ y)).toArray) os) q) g 0 (sortedL xs ++ List.replicate (n - (sortedL xs).length) []).toArray) := by
 have hl2 : ((xs.map (·.data.toList)).mergeSort fun x y => decide (x ≤ y)).length = n := by rw [List.length_mergeSort, List.length_map, hlen]
 have hle : (sortedL xs).length ≤ n := by rw [← hl2]; exact Lib.compact_length_le _
 have hs0 : (xs.map (·.data.toList)).length = n := by rw [List.length_map, hlen]
 rcases hown.2 with ⟨h0, _⟩ | ⟨g', cap', cur, hv, hbase, hb, h1, h2, h3, h4⟩
 ·cases h0
 cases hv
 rw [← hs0] at h1
 have hs := ownsRow_sorted (n := nn) (os := os) (ts := (xs.map (·.data.toList)).mergeSort fun x y => decide (x ≤ y)) (ss := xs.map (·.data.toList)) (by rw [hl2, hs0]) hbase hb h1 h2 h3
 rw [hs0] at hs h1
 have hc := Lib.ownsRow_putRow (q := q) (k := (sortedL xs).length) (ys := sortedL xs ++ List.replicate (n - (sortedL xs).length) []) hs (by simp; omega) hle
 rw [List.take_left] at hc
 have hbf := Lib.below_putRow (enc := encStr) (q := q) (d := (sortedL xs ++ List.replicate (n - (sortedL xs).length) []).toArray) (hbel.grown (grownBy_sorted (n := nn) (os := os) ((xs.map (·.data.toList)).mergeSort fun x y => decide (x ≤ y)).toArray) hbel.size (fun j hj => by cases hj; exact hbase)) hbg
 refine ⟨_, _, _, rfl, by simp [sortedOf], Nat.le_trans hle h1, fun h => absurd h (by simp), fun hne => ⟨g, 0, rfl, (hc.lt g rfl).2, fun j x hx => ?_⟩, hbf⟩
 have hj : j < (sortedL xs).length := by
  have := (List.getElem?_eq_some_iff.1 hx).1
  simpa [sortedOf] using this
 rw [Nat.zero_add, hc.cellAt j (by simpa using hj)]
 unfold sortedOf at hx
 rw [List.getElem?_map] at hx ⊢
 cases h : (sortedL xs)[j]? with
 | none => rw [h] at hx; simp at hx
 | some l => rw [h] at hx; simp at hx; subst hx; rfl
set_option maxHeartbeats 1000000 in
theorem sort_any (A : Option Addr) (n c : Nat) (xs : List ByteArray) (w : World) (hx : Txt w A xs) (hN : xs.length = n) (hA : A = none → c = 0) (hn : n * 16 ≤ 140737488355328) :
  Calls Tryz.prog 75 #[.slice A n c] w (SliceRet w (sortedOf xs)) := by
 obtain ⟨i0, hi, hz0, hz1, hz2⟩ := info_parts infoStr
 by_cases h0 : n = 0
 ·subst h0
  obtain rfl : xs = [] := List.length_eq_zero_iff.1 hN
  cases A with
  | none =>
   obtain rfl := hA rfl
   go_enter Tryz.func75, Tryz.ntmps75
   go_wp2_with (first
    | (at_builtin; refine wpList_append_own_none rfl _ _ 37 rfl 0 9 i0 1 Tryz.underlying37 hi _ 0 [] rfl (World.ownsRow_nil _ _ _ _) rfl ?_)
    | (go_at_call 103; refine (Tryz.slices_Sort_string_none _ _ _).mono ?_; rintro e w1 ⟨rfl, rfl⟩)
    | (go_at_call 104; refine (Tryz.slices_Compact_string_empty _ _ _).mono ?_; rintro e w1 ⟨rfl, rfl⟩))
   go_ret
   rw [sortedOf_nil]
   exact ⟨none, 0, 0, rfl, rfl, Nat.le_refl _, fun _ => rfl, txt_nil _ _, Below.refl _ _⟩
  | some ad =>
   go_enter Tryz.func75, Tryz.ntmps75
   go_wp2_with (at_builtin; refine wpList_append_own _ rfl _ _ 37 rfl w.heap.size 9 i0 (.string ByteArray.empty) 1 16 Tryz.underlying37 hi hz0 hz1 hz2 rfl (by decide) _ 0 [] rfl (World.ownsRow_nil _ _ _ _) ad 0 c [] rfl rfl ?c1 ?c2 ?c3 ?c4 ?c5 ?_)
   case c1 => intro j u h; simp at h
   case c2 => intro u h; simp at h
   case c3 => unfold maxLen; omega
   case c4 => omega
   case c5 => exact Nat.le_refl _
   intro v' w1 hown hgrow hnil
   obtain rfl : v' = .slice none 0 0 := by simpa using hnil
   have hb := (Below.refl w.heap.size w).grown hgrow (Nat.le_refl _) (fun k hk => by cases hk)
   clear hown hgrow
   go_wp2_with (first
    | (go_at_call 103; refine (Tryz.slices_Sort_string_none _ _ _).mono ?_; rintro e w2 ⟨rfl, rfl⟩)
    | (go_at_call 104; refine (Tryz.slices_Compact_string_empty _ _ _).mono ?_; rintro e w2 ⟨rfl, rfl⟩))
   go_ret
   rw [sortedOf_nil]
   exact ⟨none, 0, 0, rfl, rfl, Nat.le_refl _, fun _ => rfl, txt_nil _ _, hb⟩
 ·have hne : xs ≠ [] := fun e => h0 (by rw [← hN, e]; rfl)
  obtain ⟨b, o, rfl, hlt, hc⟩ := hx hne
  have HC := Lib.hid hc
  have HN := Lib.hid hN
  clear hc hx hN hA
  go_enter Tryz.func75, Tryz.ntmps75
  go_wp2_with (at_builtin; refine wpList_append_own _ rfl _ _ 37 rfl w.heap.size 9 i0 (.string ByteArray.empty) 1 16 Tryz.underlying37 hi hz0 hz1 hz2 rfl (by decide) _ 0 [] rfl (World.ownsRow_nil _ _ _ _) ⟨b, o, none⟩ n c (xs.map Value.string) rfl ?c1 ?c2 ?c3 ?c4 ?c5 ?c6 ?_)
  case c1 => rw [List.length_map, HN.out, Nat.mul_one]
  case c2 =>
   intro j u h
   rw [List.getElem?_map] at h
   cases hj : xs[j]? with
   | none => rw [hj] at h; simp at h
   | some x =>
    rw [hj] at h
    simp at h
    subst h
    rw [txt_add]
    exact HC.out j x hj
  case c3 =>
   intro u h
   obtain ⟨x, _, rfl⟩ := List.mem_map.1 h
   rfl
  case c4 => unfold maxLen; omega
  case c5 => omega
  case c6 => exact Nat.le_refl _
  intro v' w1 hown hgrow hnil
  have hv : v' ≠ .slice none 0 0 := fun e => by simp [e] at hnil
  have hbel := (Below.refl w.heap.size w).grown hgrow (Nat.le_refl _) (fun k hk => by cases hk)
  rw [← Lib.map_encStr] at hown
  obtain ⟨g, cap, rfl, hbg, hgl, hncap, hcm, hlen, hH⟩ := Lib.holds_of_ownsRow hown hv
  have hsort := Tryz.slices_Sort_string g 0 cap (xs.map (·.data.toList)) w1 hH hgl (by omega)
  rw [hlen] at hsort
  have HOW := Lib.hid hown
  have HBL := Lib.hid hbel
  have HH := Lib.hid hH
  have HS := Lib.hid hsort
  clear hown hbel hH hgrow hnil hv hsort hlen
  go_wp2_with fail
  refine HS.out.mono ?_
  rintro e w2 ⟨rfl, nn, os, rfl⟩
  have hl2 : ((xs.map (·.data.toList)).mergeSort fun x y => decide (x ≤ y)).length = n := by rw [List.length_mergeSort, List.length_map, HN.out]
  have hH2 : Holds encStr (grow (putRow encStr (Sort.ahead w1 nn) g 0 ((xs.map (·.data.toList)).mergeSort fun x y => decide (x ≤ y)).toArray) os) g 0 ((xs.map (·.data.toList)).mergeSort fun x y => decide (x ≤ y)).toArray :=
   holds_grow encStr _ os g 0 _ (by simpa [putRow, mapBlock, Sort.ahead] using hgl) (holds_putRow encStr _ g 0 _ _ (holds_ahead encStr w1 nn g 0 _ HH.out) (by simp))
  have hcomp := Tryz.slices_Compact_string g 0 cap ((xs.map (·.data.toList)).mergeSort fun x y => decide (x ≤ y)) _ hH2 (by omega) (by omega)
  rw [hl2] at hcomp
  have HCO := Lib.hid hcomp
  clear hcomp hH2 hl2
  go_wp2_with fail
  refine HCO.out.mono ?_
  rintro e w3 ⟨rfl, q, rfl⟩
  go_wp2_with fail
  go_ret
  exact sort_end HOW.out HBL.out hbg HN.out
end Go.Proofs.YteomfakbbcpckaaGreatDoor
namespace Go.Proofs.YteomfakbbcpckaaGreatDoor
namespace Nm
theorem compact_get {z : List (List UInt8)} {i : Nat} (h : i < z.length) : z.toArray[i]! = z[i] := by
 rw [getElem!_pos z.toArray i (by simpa using h)]; simp
theorem compact_mem (z : List (List UInt8)) (x : List UInt8) : x ∈ Lib.compact z ↔ x ∈ z := by
 unfold Lib.compact Lib.compactUpTo
 rw [List.mem_map]
 constructor
 ·rintro ⟨i, hi, rfl⟩
  have hl : i < z.length := List.mem_range.1 (List.mem_filter.1 hi).1
  rw [compact_get hl]; exact List.getElem_mem hl
 ·intro hx
  obtain ⟨i, hi, rfl⟩ := List.getElem_of_mem hx
  have : ∀ n i (h : i < z.length), i ≤ n → ∃ a, a ∈ (List.range z.length).filter (Lib.keeps z.toArray) ∧ z.toArray[a]! = z[i] := by
   intro n
   induction n with
   | zero =>
    intro i h hn
    obtain rfl : i = 0 := by omega
    exact ⟨0, List.mem_filter.2 ⟨List.mem_range.2 h, Lib.keeps_lt_one _ 0 (by omega)⟩, compact_get h⟩
   | succ n ih =>
    intro i h hn
    by_cases hi0 : i = 0
    ·exact ih i h (by omega)
    ·by_cases he : z.toArray[i]! = z.toArray[i - 1]!
     ·obtain ⟨a, h1, h2⟩ := ih (i - 1) (by omega) (by omega)
      exact ⟨a, h1, by rw [h2, ← compact_get (by omega), ← he, compact_get h]⟩
     ·exact ⟨i, List.mem_filter.2 ⟨List.mem_range.2 h, Lib.keeps_pos he⟩, compact_get h⟩
  exact this i i hi (Nat.le_refl _)
end Nm
theorem sortedL_mem (xs : List ByteArray) (x : List UInt8) : x ∈ sortedL xs ↔ x ∈ xs.map (·.data.toList) := by
 unfold sortedL
 rw [Nm.compact_mem, List.mem_mergeSort]
theorem sortedOf_len (xs : List ByteArray) : (sortedOf xs).length ≤ xs.length := by
 unfold sortedOf sortedL
 rw [List.length_map]
 have := Lib.compact_length_le ((xs.map (·.data.toList)).mergeSort fun x y => decide (x ≤ y))
 rwa [List.length_mergeSort, List.length_map] at this
end Go.Proofs.YteomfakbbcpckaaGreatDoor
